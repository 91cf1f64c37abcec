/- Contracts of the document's layer 15: what (a path and a word). -/
import Derived.Test.YthcleaflhljdlaaGreatDoorSeY
import Derived.Test.YthcleaflhljdlaaGreatDoorSeZ
import Derived.Test.YthcleaflhljdlaaGreatDoorSeQ
import Derived.Test.YthcleaflhljdlaaGreatDoorChars4
namespace Go.Proofs.YthcleaflhljdlaaGreatDoor
open Go Go.RowKit

theorem BoxR.set0 {W : World} {S : Nat} {vp : Value} {k : Int} {vn : Value} {c : Bool} {a b : Int} (h : BoxR W S vp k vn c a b) (v : Value) : BoxR (W.setCell ⟨S, 0, none⟩ v) S v k vn c a b := by
  unfold BoxR at h ⊢
  simp [World.setCell, Array.getElem?_modify, h]
theorem BoxR.set1 {W : World} {S : Nat} {vp : Value} {k : Int} {vn : Value} {c : Bool} {a b : Int} (h : BoxR W S vp k vn c a b) (n : Int) : BoxR (W.setCell ⟨S, 1, none⟩ (.int .i64 n)) S vp n vn c a b := by
  unfold BoxR at h ⊢
  simp [World.setCell, Array.getElem?_modify, h]
theorem BoxR.other {W : World} {S R : Nat} {vp : Value} {k : Int} {vn : Value} {c : Bool} {a b : Int} (h : BoxR W R vp k vn c a b) (j : Nat) (v : Value) (hne : R ≠ S) : BoxR (W.setCell ⟨S, j, none⟩ v) R vp k vn c a b := by
  refine h.block ?_
  simp [World.setCell, Array.getElem?_modify, hne.symm]
theorem grown_boxR {W W' : World} {base S : Nat} {v vp : Value} {k : Int} {vn : Value} {c : Bool} {a b : Int} (h : BoxR W S vp k vn c a b) (hg : W.grownBy W' v.ownBlock) (hv : ∀ q, v.ownBlock = some q → base ≤ q) (hS : S < base) : BoxR W' S vp k vn c a b :=
  h.block (hg.block S h.lt (fun e => by have := hv S e.symm; omega))
def zeroR : Value := .agg #[.slice none 0 0, .int .i64 0, .slice none 0 0, .bool false, .int .i64 0, .int .i64 0]
/-- What 'what' answers. -/
def WhatIs (w : World) (o : Option (List Int × Nat)) (e : Ending) (w' : World) : Prop :=
  match o with
  | none => e = .returned (.tuple #[zeroR, .bool false]) ∧ Below w.heap.size w w'
  | some (p, k) => ∃ ao c, e = .returned (.tuple #[.agg #[.slice ao p.length c, .int .i64 (k : Int), .slice none 0 0, .bool false, .int .i64 0, .int .i64 0], .bool true]) ∧ w'.ownsRow w.heap.size 3 1 (.slice ao p.length c) p.length (p.map intV) ∧ Below w.heap.size w w'
theorem askR_nil (n : Nat) (acc : List Int) : askR (n + 1) [] acc = some (acc, 0) := rfl
theorem askR_bad {n : Nat} {x : UInt8} {l : List UInt8} {acc : List Int} (h : isDig x = true) (h1 : numSpec (headR 46 (x :: l)).1 = none) : askR (n + 1) (x :: l) acc = none := by
  unfold askR; simp only; rw [if_pos h, h1]
theorem askR_last {n m : Nat} {x : UInt8} {l : List UInt8} {acc : List Int} (h : isDig x = true) (h1 : numSpec (headR 46 (x :: l)).1 = some m) (h2 : (headR 46 (x :: l)).2.2 = false) : askR (n + 1) (x :: l) acc = some (acc ++ [(m : Int)], 0) := by
  unfold askR; simp only; rw [if_pos h, h1]; simp only; rw [if_neg (by rw [h2]; decide)]
theorem askR_dot {n m : Nat} {x : UInt8} {l : List UInt8} {acc : List Int} (h : isDig x = true) (h1 : numSpec (headR 46 (x :: l)).1 = some m) (h2 : (headR 46 (x :: l)).2.2 = true) (h3 : (headR 46 (x :: l)).2.1 = []) : askR (n + 1) (x :: l) acc = none := by
  unfold askR; simp only; rw [if_pos h, h1]; simp only; rw [if_pos h2, if_pos h3]
theorem askR_more {n m : Nat} {x : UInt8} {l : List UInt8} {acc : List Int} (h : isDig x = true) (h1 : numSpec (headR 46 (x :: l)).1 = some m) (h2 : (headR 46 (x :: l)).2.2 = true) (h3 : (headR 46 (x :: l)).2.1 ≠ []) : askR (n + 1) (x :: l) acc = askR n (headR 46 (x :: l)).2.1 (acc ++ [(m : Int)]) := by
  conv => lhs; unfold askR
  simp only; rw [if_pos h, h1]; simp only; rw [if_pos h2, if_neg h3]
theorem askR_word {n : Nat} {x : UInt8} {l : List UInt8} {acc : List Int} (h : isDig x = false) : askR (n + 1) (x :: l) acc = (whatOf (x :: l)).map fun k => (acc, k) := by
  unfold askR; simp only; rw [if_neg (by rw [h]; decide)]
  cases whatOf (x :: l) <;> rfl
theorem cons_of (s : ByteArray) (h : 0 < s.size) : s.data.toList = s[0] :: s.data.toList.drop 1 := by
  have := drop_cons s 0 h
  rw [List.drop_zero] at this
  exact this
theorem numV_no' {o : Option Nat} (h : o = none) : numV o = .tuple #[.int .i64 0, .bool false] := by subst h; rfl
theorem numV_yes' {o : Option Nat} {n : Nat} (h : o = some n) : numV o = .tuple #[.int .i64 (n : Int), .bool true] := by subst h; rfl
theorem whatOf_atR {w : List UInt8} {i : Nat} (h : ∀ j, j < i → isWord w j = false) (hi : isWord w i = true) (h6 : i < 6) : whatOf w = some i := by
  rcases (show i = 0 ∨ i = 1 ∨ i = 2 ∨ i = 3 ∨ i = 4 ∨ i = 5 by omega) with rfl | rfl | rfl | rfl | rfl | rfl
  · simp [whatOf, hi]
  · simp [whatOf, hi, h 0 (by omega)]
  · simp [whatOf, hi, h 0 (by omega), h 1 (by omega)]
  · simp [whatOf, hi, h 0 (by omega), h 1 (by omega), h 2 (by omega)]
  · simp [whatOf, hi, h 0 (by omega), h 1 (by omega), h 2 (by omega), h 3 (by omega)]
  · simp [whatOf, hi, h 0 (by omega), h 1 (by omega), h 2 (by omega), h 3 (by omega), h 4 (by omega)]
theorem whatOf_no {w : List UInt8} (h : ∀ j, j < 6 → isWord w j = false) : whatOf w = none := by
  simp [whatOf, h 0 (by omega), h 1 (by omega), h 2 (by omega), h 3 (by omega), h 4 (by omega), h 5 (by omega)]
set_option maxRecDepth 100000 in
set_option maxHeartbeats 8000000 in
theorem refWhat_any (s : ByteArray) (w : World) (hl : s.size ≤ 1000000) :
    Calls Tryz.prog 20 #[.string s] w (WhatIs w (askR (s.size + 1) s.data.toList [])) := by
  obtain ⟨i0, hi, hz⟩ := Option.map_eq_some_iff.1 Tryz.infoInt
  simp only [Prod.mk.injEq] at hz
  obtain ⟨hz0, hz1, hz2⟩ := hz
  obtain ⟨O, hO⟩ : ∃ O, O = askR (s.size + 1) s.data.toList [] := ⟨_, rfl⟩
  rw [← hO]
  have HOe := Lib.hid hO.symm
  obtain ⟨W1, hW1⟩ : ∃ W1, W1 = (w.alloc (.cells #[.slice none 0 0, .int .i64 0, .slice none 0 0, .bool false, .int .i64 0, .int .i64 0] 30)).alloc (.cells #[.slice none 0 0, .int .i64 0, .slice none 0 0, .bool false, .int .i64 0, .int .i64 0] 30) := ⟨_, rfl⟩
  have hb0 := (Below.refl w.heap.size w).alloc (Nat.le_refl _) (.cells #[.slice none 0 0, .int .i64 0, .slice none 0 0, .bool false, .int .i64 0, .int .i64 0] 30)
  have hs0 : (w.alloc (.cells #[.slice none 0 0, .int .i64 0, .slice none 0 0, .bool false, .int .i64 0, .int .i64 0] 30)).heap.size = w.heap.size + 1 := by simp
  have HB1 : Hid (Below w.heap.size w W1) := by rw [hW1]; exact hb0.alloc (by omega) _
  have hR0 : BoxR W1 w.heap.size (.slice none 0 0) 0 (.slice none 0 0) false 0 0 := by
    unfold BoxR
    rw [hW1, Below.heap_alloc _ _ _ (by omega)]
    exact heap_alloc_new _ _
  have hX0 : BoxR W1 (w.heap.size + 1) (.slice none 0 0) 0 (.slice none 0 0) false 0 0 := by
    unfold BoxR
    rw [hW1, ← hs0]
    exact heap_alloc_new _ _
  have hZ1 : W1.heap.size = w.heap.size + 2 := by rw [hW1]; simp
  have HW1 := Lib.hid hW1.symm
  obtain ⟨R, hR⟩ : ∃ R, R = w.heap.size := ⟨_, rfl⟩
  obtain ⟨S, hS⟩ : ∃ S, S = w.heap.size + 1 := ⟨_, rfl⟩
  rw [← hR] at hR0
  rw [← hS] at hX0
  have HRe := Lib.hid hR
  have HSe := Lib.hid hS
  have hRS : R ≠ S := by omega
  have HR0 := Lib.hid hR0
  have HX0 := Lib.hid hX0
  have HNu := Lib.hid (fun (A : ByteArray) W (h : A.size ≤ 1000000) => refNumber_any A W (by omega))
  have HHd : Hid (∀ (T : ByteArray) W, T.size ≤ 1000000 → Calls Tryz.prog 19 #[.string T, .int .u8 46] W (HeadIs 46 T W)) := fun T W h => refHead_sec T 46 W (by omega)
  unfold HeadIs at HHd
  have HWd := Lib.hid (fun (k : Nat) (hk : k < 6) W => refWord_sec k hk W)
  have HFo := Lib.hid (fun (T : ByteArray) W (h : T.size ≤ 1000000) => refFold_any T W (by omega))
  clear hO hW1 hb0 hs0 hR0 hX0 hR hS
  go_enter Tryz.func20, Tryz.ntmps20
  go_upto_block 1 with fail
  rw [HW1.out, ← HSe.out, ← HRe.out]
  go_wp2_with fail
  go_loopg [0] s.size (fun q sv wr => ∃ (T : ByteArray) (acc : List Int) (ao : Option Addr) (c : Nat), sv = .string T ∧ q = T.size ∧ acc.length + T.size ≤ s.size ∧ Hid (wr.ownsRow (S + 1) 3 1 (.slice ao acc.length c) acc.length (acc.map intV)) ∧ Hid (BoxR wr S (.slice ao acc.length c) 0 (.slice none 0 0) false 0 0) ∧ Hid (BoxR wr R (.slice none 0 0) 0 (.slice none 0 0) false 0 0) ∧ Hid (Below w.heap.size w wr) ∧ Hid (∃ n, T.size < n ∧ askR n T.data.toList acc = O))
  case atStart => exact ⟨s, [], none, 0, rfl, rfl, by simp, ⟨rfl, .inl ⟨rfl, rfl⟩⟩, HX0.out, HR0.out, HB1.out, ⟨_, Nat.lt_succ_self _, HOe.out⟩⟩
  case round =>
    obtain ⟨T, acc, ao, cp, rfl, rfl, hal, HO, HX, HRb, HB, HS⟩ := hrel
    obtain ⟨n, hn, hask⟩ := HS.out
    obtain ⟨n, rfl⟩ : ∃ m, n = m + 1 := ⟨n - 1, by omega⟩
    have HN := Lib.hid hn
    have HA := Lib.hid hask
    have hTl := len_toList T
    obtain ⟨k0, k1, k2, k3, k4, k5⟩ := HX.out.c
    clear hn hask HS
    by_cases h0 : T.size = 0
    · have e0 : T.toList.isEmpty = true := by rw [List.isEmpty_iff]; exact (toList_nil_iff T).2 h0
      have hT0 : T.data.toList = [] := List.eq_nil_of_length_eq_zero (by omega)
      have HE : Hid (O = some (acc, 0)) := by
        unfold Hid
        rw [← HA.out, hT0, askR_nil]
      clear hT0 hTl
      go_wp2_with (refine wpList_store_row' rfl 30 (.tmp 2) (.tmp 56) rfl R #[.slice ao acc.length cp, .int .i64 0, .slice none 0 0, .bool false, .int .i64 0, .int .i64 0] rfl rfl 30 _ HRb.out (by kernel_rfl) rfl (by kernel_rfl) ?_; intro WE hWE)
      (try simp only [Exit.inBlock, Exit.then])
      have hrow := setRow_heap _ R _ #[.slice ao acc.length cp, .int .i64 0, .slice none 0 0, .bool false, .int .i64 0, .int .i64 0] _ _ HRb.out
      rw [← hWE.out] at hrow
      refine bodyPost_ret (results_cell_row2 (P := Tryz.prog) Tryz.results20 _ _ R 30 _ (0, 0) _ rfl hrow Tryz.underlying30 rfl (by kernel_rfl)) rfl ?_
      rw [hWE.out, HE.out]
      exact ⟨ao, cp, rfl, own_base (own_row (R := R) HO.out (by have := HSe.out; have := HRe.out; omega) _) (by have := HSe.out; omega), below_setRow HB.out (by have := HRe.out; omega) _⟩
    · have h0p : 0 < T.size := by omega
      have e0 : T.toList.isEmpty = false := by rw [List.isEmpty_eq_false_iff]; exact fun h => h0 ((toList_nil_iff T).1 h)
      have HC := Lib.hid (cons_of T h0p)
      obtain ⟨c, hc⟩ : ∃ c, c = T[0] := ⟨_, rfl⟩
      rw [← hc] at HC
      have HCe := Lib.hid hc
      by_cases hdg : 48 ≤ (c.toNat : Int) ∧ (c.toNat : Int) ≤ 57
      · have d1 : 48 ≤ (T[0].toNat : Int) := by rw [← hc]; exact hdg.1
        have d2 : (T[0].toNat : Int) ≤ 57 := by rw [← hc]; exact hdg.2
        have HD : Hid (isDig c = true) := (isDig_iff c).2 (by omega)
        clear hdg hc
        go_wp2_with fail
        with_reducible refine (HHd.out T wr (by omega)).mono ?_
        rintro e w2 ⟨A, B, f, rfl, hh, hb2⟩
        have HB2 := Lib.hid (HB.out.trans (hb2.mono HB.out.size))
        have HX2 := Lib.hid (HX.out.below hb2)
        have HR2 := Lib.hid (HRb.out.below hb2)
        have HO2 := Lib.hid (ownsRow_below HO.out hb2)
        have hlen := headR_len 46 T.data.toList
        have hsnd := headR_sound 46 T.data.toList
        rw [hh] at hlen hsnd
        have HH := Lib.hid hh
        have hAs : A.size ≤ T.size := by have := hlen.1; rw [len_toList] at this; omega
        have hNA := HNu.out A w2 (by omega)
        clear hb2 HO HX HRb HB hlen hh k0 k1 k2 k3 k4 k5
        cases h1 : numSpec A.data.toList with
        | none =>
          rw [numV_no' h1] at hNA
          have HNA := Lib.hid hNA
          have HE : Hid (O = none) := by
            have ha := HA.out
            rw [HC.out] at ha
            unfold Hid
            rw [← ha]
            refine askR_bad HD.out ?_
            rw [← HC.out, HH.out]
            exact h1
          clear h1 hNA hsnd
          go_wp2_with fail
          with_reducible refine HNA.out.mono ?_
          rintro e w3 ⟨rfl, rfl⟩
          go_wp2_with (refine wpList_store_row' rfl 30 (.tmp 2) (.tmp 43) rfl R #[.slice none 0 0, .int .i64 0, .slice none 0 0, .bool false, .int .i64 0, .int .i64 0] rfl rfl 30 _ HR2.out (by kernel_rfl) rfl (by kernel_rfl) ?_; intro WE hWE)
          (try simp only [Exit.inBlock, Exit.then])
          have hrow := setRow_heap _ R _ #[.slice none 0 0, .int .i64 0, .slice none 0 0, .bool false, .int .i64 0, .int .i64 0] _ _ HR2.out
          rw [← hWE.out] at hrow
          refine bodyPost_ret (results_cell_row2 (P := Tryz.prog) Tryz.results20 _ _ R 30 _ (0, 0) _ rfl hrow Tryz.underlying30 rfl (by kernel_rfl)) rfl ?_
          rw [hWE.out, HE.out]
          exact ⟨rfl, below_setRow HB2.out (by have := HRe.out; omega) _⟩
        | some m =>
          rw [numV_yes' h1] at hNA
          have HNA := Lib.hid hNA
          have HN1 : Hid (numSpec (headR 46 (c :: T.data.toList.drop 1)).1 = some m) := by unfold Hid; rw [← HC.out, HH.out]; exact h1
          clear h1 hNA
          by_cases hfb : f = true ∧ B.size = 0
          · obtain ⟨rfl, hB0⟩ := hfb
            have eB : B.toList.isEmpty = true := by rw [List.isEmpty_iff]; exact (toList_nil_iff B).2 hB0
            have HE : Hid (O = none) := by
              have ha := HA.out
              rw [HC.out] at ha
              unfold Hid
              rw [← ha]
              refine askR_dot HD.out HN1.out ?_ ?_
              · rw [← HC.out, HH.out]
              · rw [← HC.out, HH.out]
                exact List.eq_nil_of_length_eq_zero (by rw [len_toList]; exact hB0)
            clear hsnd hB0
            go_wp2_with fail
            with_reducible refine HNA.out.mono ?_
            rintro e w3 ⟨rfl, rfl⟩
            go_wp2_with (refine wpList_store_row' rfl 30 (.tmp 2) (.tmp 43) rfl R #[.slice none 0 0, .int .i64 0, .slice none 0 0, .bool false, .int .i64 0, .int .i64 0] rfl rfl 30 _ HR2.out (by kernel_rfl) rfl (by kernel_rfl) ?_; intro WE hWE)
            (try simp only [Exit.inBlock, Exit.then])
            have hrow := setRow_heap _ R _ #[.slice none 0 0, .int .i64 0, .slice none 0 0, .bool false, .int .i64 0, .int .i64 0] _ _ HR2.out
            rw [← hWE.out] at hrow
            refine bodyPost_ret (results_cell_row2 (P := Tryz.prog) Tryz.results20 _ _ R 30 _ (0, 0) _ rfl hrow Tryz.underlying30 rfl (by kernel_rfl)) rfl ?_
            rw [hWE.out, HE.out]
            exact ⟨rfl, below_setRow HB2.out (by have := HRe.out; omega) _⟩
          · cases f with
            | false =>
              have HZ2 : Hid (S < w2.heap.size) := HX2.out.lt
              obtain ⟨k0, k1, k2, k3, k4, k5⟩ := HX2.out.c
              have f0 := HX2.out.f 0
              have ez : (w2.alloc (.cells #[.int .i64 (m : Int)] 3)).cell? ⟨S, 0, none⟩ = some (.slice ao acc.length cp) := ((Below.refl w2.heap.size w2).alloc (Nat.le_refl _) _).cell (p := ⟨S, 0, none⟩) HZ2.out |>.trans k0
              go_wp2_with fail
              with_reducible refine HNA.out.mono ?_
              rintro e w3 ⟨rfl, rfl⟩
              go_wp2_with (at_builtin; refine wpList_append_own _ rfl _ _ 23 rfl (S + 1) 3 i0 (.int .i64 0) 1 8 Tryz.underlying23 hi hz0 hz1 hz2 rfl (by decide) _ _ _ rfl (HO2.out.alloc _) ⟨w2.heap.size, 0, none⟩ 1 1 [.int .i64 (m : Int)] rfl rfl ?c1 ?c2 ?c3 ?c4 ?c5 ?_)
              case c1 => exact cell_one_new w2 _ _
              case c2 => simp [Value.oneCell']
              case c3 => unfold maxLen; omega
              case c4 => omega
              case c5 => have := HZ2.out; simp; omega
              intro v' w3 hown3 hgrow3 _
              obtain ⟨gv, cv, hv', _⟩ := ownsRow_slice hown3 (by omega)
              subst hv'
              have hge := own_ge HO2.out
              have HAl := Lib.hid ((Below.refl w2.heap.size w2).alloc (Nat.le_refl _) (.cells #[.int .i64 (m : Int)] 3))
              have HX3 := Lib.hid (grown_boxR (HX2.out.below HAl.out) hgrow3 hge (by omega))
              have HR3 := Lib.hid (grown_boxR (HR2.out.below HAl.out) hgrow3 hge (by have := HRe.out; have := HSe.out; omega))
              have HB3 : Hid (Below w.heap.size w w3) := (HB2.out.alloc (by have := HZ2.out; have := HSe.out; omega) _).grown hgrow3 (by have := HZ2.out; have := HSe.out; simp; omega) (fun q hq => by have := hge q hq; have := HSe.out; omega)
              have HO3 := Lib.hid hown3
              have f0' := HX3.out.f 0
              have c0' := HX3.out.c.1
              have HX4 := Lib.hid (HX3.out.set0 (.slice (some ⟨gv, 0, none⟩) (acc.length + 1) cv))
              have HR4 := Lib.hid (HR3.out.other (S := S) 0 (.slice (some ⟨gv, 0, none⟩) (acc.length + 1) cv) hRS)
              have HO4 := Lib.hid (own_set (S := S) (j := 0) (u := .slice (some ⟨gv, 0, none⟩) (acc.length + 1) cv) HO3.out (by omega))
              have HB4 := Lib.hid (HB3.out.setCell (p := ⟨S, 0, none⟩) (by have := HSe.out; simp; omega) (.slice (some ⟨gv, 0, none⟩) (acc.length + 1) cv))
              have HMap : Hid (acc.map intV ++ [.int .i64 (m : Int)] = (acc ++ [(m : Int)]).map intV) := by unfold Hid; simp [intV]
              rw [HMap.out] at HO4
              have HLe : Hid ((acc ++ [(m : Int)]).length = acc.length + 1) := by unfold Hid; simp
              clear hown3 hgrow3 hge HAl HX2 HR2 HO2 HB2 f0 ez HX3 HR3 HO3 HB3 k0 k1 k2 k3 k4 k5
              have HE : Hid (O = some (acc ++ [(m : Int)], 0)) := by
                have ha := HA.out
                rw [HC.out] at ha
                unfold Hid
                rw [← ha]
                refine askR_last HD.out HN1.out ?_
                rw [← HC.out, HH.out]
              obtain ⟨k0, k1, k2, k3, k4, k5⟩ := HX4.out.c
              clear hsnd
              go_wp2_with (refine wpList_store_row' rfl 30 (.tmp 2) (.tmp 52) rfl R #[.slice (some ⟨gv, 0, none⟩) (acc.length + 1) cv, .int .i64 0, .slice none 0 0, .bool false, .int .i64 0, .int .i64 0] rfl rfl 30 _ HR4.out (by kernel_rfl) rfl (by kernel_rfl) ?_; intro WE hWE)
              (try simp only [Exit.inBlock, Exit.then])
              have hrow := setRow_heap _ R _ #[.slice (some ⟨gv, 0, none⟩) (acc.length + 1) cv, .int .i64 0, .slice none 0 0, .bool false, .int .i64 0, .int .i64 0] _ _ HR4.out
              rw [← hWE.out] at hrow
              refine bodyPost_ret (results_cell_row2 (P := Tryz.prog) Tryz.results20 _ _ R 30 _ (0, 0) _ rfl hrow Tryz.underlying30 rfl (by kernel_rfl)) rfl ?_
              rw [hWE.out, HE.out]
              refine ⟨some ⟨gv, 0, none⟩, cv, by rw [HLe.out]; rfl, ?_, below_setRow HB4.out (by have := HRe.out; omega) _⟩
              rw [HLe.out]
              exact own_base (base := S + 1) (own_row (R := R) HO4.out (by have := HSe.out; have := HRe.out; omega) _) (by have := HSe.out; omega)
            | true =>
              have hB1 : ¬ B.size = 0 := fun h => hfb ⟨rfl, h⟩
              have eB : B.toList.isEmpty = false := by rw [List.isEmpty_eq_false_iff]; exact fun h => hB1 ((toList_nil_iff B).1 h)
              have HFB := Lib.hid hB1
              clear hfb hB1
              have HZ2 : Hid (S < w2.heap.size) := HX2.out.lt
              obtain ⟨k0, k1, k2, k3, k4, k5⟩ := HX2.out.c
              have f0 := HX2.out.f 0
              have ez : (w2.alloc (.cells #[.int .i64 (m : Int)] 3)).cell? ⟨S, 0, none⟩ = some (.slice ao acc.length cp) := ((Below.refl w2.heap.size w2).alloc (Nat.le_refl _) _).cell (p := ⟨S, 0, none⟩) HZ2.out |>.trans k0
              go_wp2_with fail
              with_reducible refine HNA.out.mono ?_
              rintro e w3 ⟨rfl, rfl⟩
              go_wp2_with (at_builtin; refine wpList_append_own _ rfl _ _ 23 rfl (S + 1) 3 i0 (.int .i64 0) 1 8 Tryz.underlying23 hi hz0 hz1 hz2 rfl (by decide) _ _ _ rfl (HO2.out.alloc _) ⟨w2.heap.size, 0, none⟩ 1 1 [.int .i64 (m : Int)] rfl rfl ?c1 ?c2 ?c3 ?c4 ?c5 ?_)
              case c1 => exact cell_one_new w2 _ _
              case c2 => simp [Value.oneCell']
              case c3 => unfold maxLen; omega
              case c4 => omega
              case c5 => have := HZ2.out; simp; omega
              intro v' w3 hown3 hgrow3 _
              obtain ⟨gv, cv, hv', _⟩ := ownsRow_slice hown3 (by omega)
              subst hv'
              have hge := own_ge HO2.out
              have HAl := Lib.hid ((Below.refl w2.heap.size w2).alloc (Nat.le_refl _) (.cells #[.int .i64 (m : Int)] 3))
              have HX3 := Lib.hid (grown_boxR (HX2.out.below HAl.out) hgrow3 hge (by omega))
              have HR3 := Lib.hid (grown_boxR (HR2.out.below HAl.out) hgrow3 hge (by have := HRe.out; have := HSe.out; omega))
              have HB3 : Hid (Below w.heap.size w w3) := (HB2.out.alloc (by have := HZ2.out; have := HSe.out; omega) _).grown hgrow3 (by have := HZ2.out; have := HSe.out; simp; omega) (fun q hq => by have := hge q hq; have := HSe.out; omega)
              have HO3 := Lib.hid hown3
              have f0' := HX3.out.f 0
              have c0' := HX3.out.c.1
              have HX4 := Lib.hid (HX3.out.set0 (.slice (some ⟨gv, 0, none⟩) (acc.length + 1) cv))
              have HR4 := Lib.hid (HR3.out.other (S := S) 0 (.slice (some ⟨gv, 0, none⟩) (acc.length + 1) cv) hRS)
              have HO4 := Lib.hid (own_set (S := S) (j := 0) (u := .slice (some ⟨gv, 0, none⟩) (acc.length + 1) cv) HO3.out (by omega))
              have HB4 := Lib.hid (HB3.out.setCell (p := ⟨S, 0, none⟩) (by have := HSe.out; simp; omega) (.slice (some ⟨gv, 0, none⟩) (acc.length + 1) cv))
              have HMap : Hid (acc.map intV ++ [.int .i64 (m : Int)] = (acc ++ [(m : Int)]).map intV) := by unfold Hid; simp [intV]
              rw [HMap.out] at HO4
              have HLe : Hid ((acc ++ [(m : Int)]).length = acc.length + 1) := by unfold Hid; simp
              clear hown3 hgrow3 hge HAl HX2 HR2 HO2 HB2 f0 ez HX3 HR3 HO3 HB3 k0 k1 k2 k3 k4 k5
              have hB0 : B.data.toList ≠ [] := fun h => HFB.out (by rw [← len_toList, h]; rfl)
              have HS : Hid (askR n B.data.toList (acc ++ [(m : Int)]) = O) := by
                have ha := HA.out
                rw [HC.out] at ha
                unfold Hid
                rw [← ha, askR_more HD.out HN1.out (by rw [← HC.out, HH.out]) (by rw [← HC.out, HH.out]; exact hB0), ← HC.out, HH.out]
              have hBl : B.size < T.size := by
                rcases hsnd with h | h
                · have h2 := congrArg List.length h.2.1
                  simp only [List.length_append, List.length_cons, len_toList] at h2
                  omega
                · have := congrArg (fun x => x.2.2) h.1
                  cases this
              clear hsnd hB0
              go_wp2_with fail
              go_roundg B.size
              case measure => omega
              case rel =>
                refine ⟨B, acc ++ [(m : Int)], some ⟨gv, 0, none⟩, cv, rfl, rfl, by rw [HLe.out]; omega, ?_, ?_, HR4.out, HB4.out, ⟨n, by have := HN.out; omega, HS.out⟩⟩
                · rw [HLe.out]; exact HO4.out
                · rw [HLe.out]; exact HX4.out
      · have hnd : isDig c = false := isDig_false (by omega)
        have HE : Hid (O = (whatOf T.data.toList).map fun k => (acc, k)) := by
          have ha := HA.out
          rw [HC.out, askR_word hnd, ← HC.out] at ha
          exact ha.symm
        have HW0 : Hid (isWord T.data.toList 0 = false) := by
          unfold Hid isWord
          refine decide_eq_false (fun e => ?_)
          have := congrArg List.length e
          rw [foldS_len, len_toList] at this
          have h3 : (foldS (wordL 0)).length = 0 := rfl
          rw [h3] at this
          omega
        have HFT := Lib.hid (fun W => HFo.out T W (by omega))
        obtain ⟨FT, hFT⟩ : ∃ F : ByteArray, F = ⟨(foldS T.data.toList).toArray⟩ := ⟨_, rfl⟩
        rw [← hFT] at HFT
        have HFe : Hid (FT.data.toList = foldS T.data.toList) := by unfold Hid; rw [hFT]
        clear hnd hFT hTl HC HN HA
        by_cases d1 : 48 ≤ (T[0].toNat : Int)
        · have d2 : ¬ (T[0].toNat : Int) ≤ 57 := fun h => hdg ⟨by rw [hc]; exact d1, by rw [hc]; exact h⟩
          clear hdg hc
          go_wp2_with fail
          go_loopg [10] 5 (fun q xi w5 => ∃ i : Nat, 1 ≤ i ∧ i ≤ 6 ∧ q = 6 - i ∧ xi = .int .i64 (i : Int) ∧ Hid (∀ j, j < i → isWord T.data.toList j = false) ∧ Hid (Below wr.heap.size wr w5))
          case atStart => exact ⟨1, by omega, by omega, by omega, rfl, (by
            intro j hj
            obtain rfl : j = 0 := by omega
            exact HW0.out), Below.refl _ _⟩
          case round =>
            obtain ⟨i, h1i, hi6, rfl, rfl, HWs, HBw⟩ := hrel
            by_cases hlt : i < 6
            · have HWi := Lib.hid (fun W => HWd.out i hlt W)
              have hdi : (i : Int) < 6 := by omega
              have hwl : (wordL i).length ≤ 30 := by
                rcases (show i = 0 ∨ i = 1 ∨ i = 2 ∨ i = 3 ∨ i = 4 ∨ i = 5 by omega) with rfl | rfl | rfl | rfl | rfl | rfl <;> decide
              have hws : (wordB i).size ≤ 30 := by rw [← len_toList, wordB_list]; exact hwl
              have hwe : (wordB i).data.toList = wordL i := wordB_list i
              have hFi := fun W => HFo.out (wordB i) W (by omega)
              rw [hwe] at hFi
              obtain ⟨X, hX⟩ : ∃ X : ByteArray, X = ⟨(foldS (wordL i)).toArray⟩ := ⟨_, rfl⟩
              have hXe : X.data.toList = foldS (wordL i) := by rw [hX]
              rw [← hX] at hFi
              have HFi := Lib.hid hFi
              have HXe := Lib.hid hXe
              have hiw : isWord T.data.toList i = decide (FT = X) := by
                unfold isWord
                rw [← HFe.out, ← hXe]
                by_cases e : FT = X
                · rw [e, decide_eq_true rfl, decide_eq_true rfl]
                · rw [decide_eq_false e, decide_eq_false (fun h => e (bytes_eq h))]
              have HIw := Lib.hid hiw
              obtain ⟨wb, hwb⟩ : ∃ wb, wb = wordB i := ⟨_, rfl⟩
              rw [← hwb] at HWi HFi
              clear hwl hws hwe hFi hX hXe hiw hwb
              go_wp2_with fail
              with_reducible refine (HWi.out wr).mono ?_
              rintro e w6 ⟨rfl, hb6⟩
              have HB6 := Lib.hid (HBw.out.trans (hb6.mono HBw.out.size))
              clear hb6
              go_wp2_with fail
              with_reducible refine (HFi.out w6).mono ?_
              rintro e w7 ⟨rfl, hb7⟩
              have HB7 := Lib.hid (HB6.out.trans (hb7.mono HB6.out.size))
              clear hb7
              go_wp2_with fail
              with_reducible refine (HFT.out w7).mono ?_
              rintro e w8 ⟨rfl, hb8⟩
              have HB8 := Lib.hid (HB7.out.trans (hb8.mono HB7.out.size))
              clear hb8
              have HX8 := Lib.hid (HX.out.below HB8.out)
              have HR8 := Lib.hid (HRb.out.below HB8.out)
              have HO8 := Lib.hid (ownsRow_below HO.out HB8.out)
              have HBB := Lib.hid (HB.out.trans (HB8.out.mono HB.out.size))
              by_cases hFX : FT = X
              · have bX : (X.toList == FT.toList) = true := by rw [hFX]; simp
                have hw : whatOf T.data.toList = some i := whatOf_atR HWs.out (by rw [HIw.out, decide_eq_true hFX]) hlt
                have HE2 : Hid (O = some (acc, i)) := by unfold Hid; rw [HE.out, hw]; rfl
                clear k0 k1 k2 k3 k4 k5 hw hFX
                obtain ⟨k0, k1, k2, k3, k4, k5⟩ := HX8.out.c
                have f1 := HX8.out.f 1
                have HR9 := Lib.hid (HR8.out.other (S := S) 1 (.int .i64 (i : Int)) hRS)
                have HO9 := Lib.hid (own_set (S := S) (j := 1) (u := .int .i64 (i : Int)) HO8.out (by omega))
                have HB9 := Lib.hid (HBB.out.setCell (p := ⟨S, 1, none⟩) (by have := HSe.out; simp; omega) (.int .i64 (i : Int)))
                have hSp : (⟨S, 0, none⟩ : Addr) ≠ ⟨S, 1, none⟩ := by simp
                go_wp2_with (refine wpList_store_row' rfl 30 (.tmp 2) (.tmp 69) rfl R #[.slice ao acc.length cp, .int .i64 (i : Int), .slice none 0 0, .bool false, .int .i64 0, .int .i64 0] rfl rfl 30 _ HR9.out (by kernel_rfl) rfl (by kernel_rfl) ?_; intro WE hWE)
                (try simp only [Exit.inBlock, Exit.then])
                have hrow := setRow_heap _ R _ #[.slice ao acc.length cp, .int .i64 (i : Int), .slice none 0 0, .bool false, .int .i64 0, .int .i64 0] _ _ HR9.out
                rw [← hWE.out] at hrow
                refine bodyPost_ret (results_cell_row2 (P := Tryz.prog) Tryz.results20 _ _ R 30 _ (0, 0) _ rfl hrow Tryz.underlying30 rfl (by kernel_rfl)) rfl ?_
                rw [hWE.out, HE2.out]
                exact ⟨ao, cp, rfl, own_base (base := S + 1) (own_row (R := R) HO9.out (by have := HSe.out; have := HRe.out; omega) _) (by have := HSe.out; omega), below_setRow HB9.out (by have := HRe.out; omega) _⟩
              · have bX : (X.toList == FT.toList) = false := by
                  rw [beq_eq_false_iff_ne]
                  intro e
                  rw [ByteArray.toList_eq, ByteArray.toList_eq] at e
                  exact hFX (bytes_eq e.symm)
                have HIf : Hid (isWord T.data.toList i = false) := by unfold Hid; rw [HIw.out]; exact decide_eq_false hFX
                clear hFX
                go_wp2_with fail
                go_roundg (6 - (i + 1))
                case measure => omega
                case rel =>
                  refine ⟨i + 1, by omega, by omega, rfl, by go_num, ?_, HB8.out⟩
                  intro j hj
                  rcases Nat.lt_succ_iff_lt_or_eq.1 hj with h | rfl
                  · exact HWs.out j h
                  · exact HIf.out
            · obtain rfl : i = 6 := by omega
              have HE2 : Hid (O = none) := by unfold Hid; rw [HE.out, whatOf_no HWs.out]; rfl
              have HRw := Lib.hid (HRb.out.below HBw.out)
              have HBB := Lib.hid (HB.out.trans (HBw.out.mono HB.out.size))
              go_wp2_with (refine wpList_store_row' rfl 30 (.tmp 2) (.tmp 70) rfl R #[.slice none 0 0, .int .i64 0, .slice none 0 0, .bool false, .int .i64 0, .int .i64 0] rfl rfl 30 _ HRw.out (by kernel_rfl) rfl (by kernel_rfl) ?_; intro WE hWE)
              (try simp only [Exit.inBlock, Exit.then])
              have hrow := setRow_heap _ R _ #[.slice none 0 0, .int .i64 0, .slice none 0 0, .bool false, .int .i64 0, .int .i64 0] _ _ HRw.out
              rw [← hWE.out] at hrow
              refine bodyPost_ret (results_cell_row2 (P := Tryz.prog) Tryz.results20 _ _ R 30 _ (0, 0) _ rfl hrow Tryz.underlying30 rfl (by kernel_rfl)) rfl ?_
              rw [hWE.out, HE2.out]
              exact ⟨rfl, below_setRow HBB.out (by have := HRe.out; omega) _⟩
        · clear hdg hc
          go_wp2_with fail
          go_loopg [10] 5 (fun q xi w5 => ∃ i : Nat, 1 ≤ i ∧ i ≤ 6 ∧ q = 6 - i ∧ xi = .int .i64 (i : Int) ∧ Hid (∀ j, j < i → isWord T.data.toList j = false) ∧ Hid (Below wr.heap.size wr w5))
          case atStart => exact ⟨1, by omega, by omega, by omega, rfl, (by
            intro j hj
            obtain rfl : j = 0 := by omega
            exact HW0.out), Below.refl _ _⟩
          case round =>
            obtain ⟨i, h1i, hi6, rfl, rfl, HWs, HBw⟩ := hrel
            by_cases hlt : i < 6
            · have HWi := Lib.hid (fun W => HWd.out i hlt W)
              have hdi : (i : Int) < 6 := by omega
              have hwl : (wordL i).length ≤ 30 := by
                rcases (show i = 0 ∨ i = 1 ∨ i = 2 ∨ i = 3 ∨ i = 4 ∨ i = 5 by omega) with rfl | rfl | rfl | rfl | rfl | rfl <;> decide
              have hws : (wordB i).size ≤ 30 := by rw [← len_toList, wordB_list]; exact hwl
              have hwe : (wordB i).data.toList = wordL i := wordB_list i
              have hFi := fun W => HFo.out (wordB i) W (by omega)
              rw [hwe] at hFi
              obtain ⟨X, hX⟩ : ∃ X : ByteArray, X = ⟨(foldS (wordL i)).toArray⟩ := ⟨_, rfl⟩
              have hXe : X.data.toList = foldS (wordL i) := by rw [hX]
              rw [← hX] at hFi
              have HFi := Lib.hid hFi
              have HXe := Lib.hid hXe
              have hiw : isWord T.data.toList i = decide (FT = X) := by
                unfold isWord
                rw [← HFe.out, ← hXe]
                by_cases e : FT = X
                · rw [e, decide_eq_true rfl, decide_eq_true rfl]
                · rw [decide_eq_false e, decide_eq_false (fun h => e (bytes_eq h))]
              have HIw := Lib.hid hiw
              obtain ⟨wb, hwb⟩ : ∃ wb, wb = wordB i := ⟨_, rfl⟩
              rw [← hwb] at HWi HFi
              clear hwl hws hwe hFi hX hXe hiw hwb
              go_wp2_with fail
              with_reducible refine (HWi.out wr).mono ?_
              rintro e w6 ⟨rfl, hb6⟩
              have HB6 := Lib.hid (HBw.out.trans (hb6.mono HBw.out.size))
              clear hb6
              go_wp2_with fail
              with_reducible refine (HFi.out w6).mono ?_
              rintro e w7 ⟨rfl, hb7⟩
              have HB7 := Lib.hid (HB6.out.trans (hb7.mono HB6.out.size))
              clear hb7
              go_wp2_with fail
              with_reducible refine (HFT.out w7).mono ?_
              rintro e w8 ⟨rfl, hb8⟩
              have HB8 := Lib.hid (HB7.out.trans (hb8.mono HB7.out.size))
              clear hb8
              have HX8 := Lib.hid (HX.out.below HB8.out)
              have HR8 := Lib.hid (HRb.out.below HB8.out)
              have HO8 := Lib.hid (ownsRow_below HO.out HB8.out)
              have HBB := Lib.hid (HB.out.trans (HB8.out.mono HB.out.size))
              by_cases hFX : FT = X
              · have bX : (X.toList == FT.toList) = true := by rw [hFX]; simp
                have hw : whatOf T.data.toList = some i := whatOf_atR HWs.out (by rw [HIw.out, decide_eq_true hFX]) hlt
                have HE2 : Hid (O = some (acc, i)) := by unfold Hid; rw [HE.out, hw]; rfl
                clear k0 k1 k2 k3 k4 k5 hw hFX
                obtain ⟨k0, k1, k2, k3, k4, k5⟩ := HX8.out.c
                have f1 := HX8.out.f 1
                have HR9 := Lib.hid (HR8.out.other (S := S) 1 (.int .i64 (i : Int)) hRS)
                have HO9 := Lib.hid (own_set (S := S) (j := 1) (u := .int .i64 (i : Int)) HO8.out (by omega))
                have HB9 := Lib.hid (HBB.out.setCell (p := ⟨S, 1, none⟩) (by have := HSe.out; simp; omega) (.int .i64 (i : Int)))
                have hSp : (⟨S, 0, none⟩ : Addr) ≠ ⟨S, 1, none⟩ := by simp
                go_wp2_with (refine wpList_store_row' rfl 30 (.tmp 2) (.tmp 69) rfl R #[.slice ao acc.length cp, .int .i64 (i : Int), .slice none 0 0, .bool false, .int .i64 0, .int .i64 0] rfl rfl 30 _ HR9.out (by kernel_rfl) rfl (by kernel_rfl) ?_; intro WE hWE)
                (try simp only [Exit.inBlock, Exit.then])
                have hrow := setRow_heap _ R _ #[.slice ao acc.length cp, .int .i64 (i : Int), .slice none 0 0, .bool false, .int .i64 0, .int .i64 0] _ _ HR9.out
                rw [← hWE.out] at hrow
                refine bodyPost_ret (results_cell_row2 (P := Tryz.prog) Tryz.results20 _ _ R 30 _ (0, 0) _ rfl hrow Tryz.underlying30 rfl (by kernel_rfl)) rfl ?_
                rw [hWE.out, HE2.out]
                exact ⟨ao, cp, rfl, own_base (base := S + 1) (own_row (R := R) HO9.out (by have := HSe.out; have := HRe.out; omega) _) (by have := HSe.out; omega), below_setRow HB9.out (by have := HRe.out; omega) _⟩
              · have bX : (X.toList == FT.toList) = false := by
                  rw [beq_eq_false_iff_ne]
                  intro e
                  rw [ByteArray.toList_eq, ByteArray.toList_eq] at e
                  exact hFX (bytes_eq e.symm)
                have HIf : Hid (isWord T.data.toList i = false) := by unfold Hid; rw [HIw.out]; exact decide_eq_false hFX
                clear hFX
                go_wp2_with fail
                go_roundg (6 - (i + 1))
                case measure => omega
                case rel =>
                  refine ⟨i + 1, by omega, by omega, rfl, by go_num, ?_, HB8.out⟩
                  intro j hj
                  rcases Nat.lt_succ_iff_lt_or_eq.1 hj with h | rfl
                  · exact HWs.out j h
                  · exact HIf.out
            · obtain rfl : i = 6 := by omega
              have HE2 : Hid (O = none) := by unfold Hid; rw [HE.out, whatOf_no HWs.out]; rfl
              have HRw := Lib.hid (HRb.out.below HBw.out)
              have HBB := Lib.hid (HB.out.trans (HBw.out.mono HB.out.size))
              go_wp2_with (refine wpList_store_row' rfl 30 (.tmp 2) (.tmp 70) rfl R #[.slice none 0 0, .int .i64 0, .slice none 0 0, .bool false, .int .i64 0, .int .i64 0] rfl rfl 30 _ HRw.out (by kernel_rfl) rfl (by kernel_rfl) ?_; intro WE hWE)
              (try simp only [Exit.inBlock, Exit.then])
              have hrow := setRow_heap _ R _ #[.slice none 0 0, .int .i64 0, .slice none 0 0, .bool false, .int .i64 0, .int .i64 0] _ _ HRw.out
              rw [← hWE.out] at hrow
              refine bodyPost_ret (results_cell_row2 (P := Tryz.prog) Tryz.results20 _ _ R 30 _ (0, 0) _ rfl hrow Tryz.underlying30 rfl (by kernel_rfl)) rfl ?_
              rw [hWE.out, HE2.out]
              exact ⟨rfl, below_setRow HBB.out (by have := HRe.out; omega) _⟩
end Go.Proofs.YthcleaflhljdlaaGreatDoor
