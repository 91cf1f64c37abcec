/- Contracts of the document's layer 15: Parse. -/
import Derived.Test.YthcleaflhljdlaaGreatDoorSfG
namespace Go.Proofs.YthcleaflhljdlaaGreatDoor
open Go Go.RowKit

def specM (a : Option (List Int × Nat)) (b : Option (List (List UInt8))) (c : Option (Bool × Int × Int)) : Option Spc :=
  match a with
  | none => none
  | some (p, k) =>
    match b with
    | none => none
    | some ns =>
      match c with
      | none => none
      | some (x, y, z) => some ⟨p, (k : Int), ns, x, y, z⟩
theorem specM_a (b : Option (List (List UInt8))) (c : Option (Bool × Int × Int)) : specM none b c = none := rfl
theorem specM_b (a : Option (List Int × Nat)) (c : Option (Bool × Int × Int)) : specM a none c = none := by rcases a with _ | ⟨p, k⟩ <;> rfl
theorem specM_c (a : Option (List Int × Nat)) (b : Option (List (List UInt8))) : specM a b none = none := by rcases a with _ | ⟨p, k⟩ <;> rcases b with _ | ns <;> rfl
theorem specR_head {l : List UInt8} (h : l.head? ≠ some 91) : specR l = none := by unfold specR; rw [if_neg h]
theorem specR_last {l : List UInt8} (h : lastR 93 l = none) : specR l = none := by
  unfold specR
  rw [h]
  split <;> rfl
theorem specR_at {l f tail : List UInt8} (h : l.head? = some 91) (h2 : lastR 93 l = some (f, tail)) : specR l = specM (askR (l.length + 1) (headR 32 (f.drop 1)).1 []) (nOptR (f.drop 1)) (cutR tail) := by
  unfold specR specM
  rw [if_pos h, h2]
  simp only
  cases askR (l.length + 1) (headR 32 (f.drop 1)).1 [] with
  | none => rfl
  | some pk =>
    obtain ⟨p, k⟩ := pk
    cases nOptR (f.drop 1) with
    | none => rfl
    | some ns =>
      rcases cutR tail with _ | ⟨c, a, b⟩ <;> rfl
theorem askR_fu {n m : Nat} {l : List UInt8} (hn : l.length < n) (hm : l.length < m) : askR n l [] = askR m l [] := by
  cases h : askR n l [] with
  | some pk =>
    obtain ⟨p, e, ht⟩ := askR_sound n l [] pk.1 pk.2 h
    rw [askR_full ht m [] hm, ← e]
  | none =>
    cases h2 : askR m l [] with
    | none => rfl
    | some pk =>
      obtain ⟨p, e, ht⟩ := askR_sound m l [] pk.1 pk.2 h2
      have := askR_full ht n [] hn
      rw [h] at this
      cases this
theorem askTx_plen {l : List UInt8} {p : List Int} {k : Nat} (h : AskTx l p k) : p.length ≤ l.length + 1 := by
  induction h with
  | word w k h => simp
  | last d n h => simp
  | more d n l p k h hr hk ih => simp only [List.length_append, List.length_cons]; omega
theorem nmsTx_nlen {l : List UInt8} {ns : List (List UInt8)} (h : NmsTx l ns) : ns.length ≤ l.length + 1 ∧ ∀ a ∈ ns, a.length ≤ l.length := by
  induction h with
  | one t a h =>
    refine ⟨by simp, fun b hb => ?_⟩
    rw [List.mem_singleton.1 hb]
    exact nameTx_len h
  | more t a l as1 h hr ih =>
    refine ⟨by simp only [List.length_append, List.length_cons]; omega, fun b hb => ?_⟩
    simp only [List.length_append, List.length_cons]
    rcases List.mem_cons.1 hb with rfl | hb
    · have := nameTx_len h
      omega
    · have := ih.2 b hb
      omega
theorem askR_plen {n : Nat} {l : List UInt8} {p : List Int} {k : Nat} (h : askR n l [] = some (p, k)) : p.length ≤ l.length + 1 := by
  obtain ⟨q, e, ht⟩ := askR_sound n l [] p k h
  rw [e]
  exact askTx_plen ht
theorem nmsR_nlen {n : Nat} {l : List UInt8} {ns : List (List UInt8)} (h : nmsR n l [] = some ns) : ns.length ≤ l.length + 1 ∧ ∀ a ∈ ns, a.length ≤ l.length := by
  obtain ⟨q, e, ht⟩ := nmsR_sound n l [] ns h
  rw [e]
  exact nmsTx_nlen ht
theorem cutR_five {l : List UInt8} {x : Bool × Int × Int} (h : cutR l = some x) (hl : l ≠ []) : 5 ≤ l.length := by
  obtain ⟨c, a, b⟩ := x
  rcases cutR_sound h with ⟨e, _⟩ | ⟨d1, d2, n1, n2, e, h1, h2, _⟩
  · exact (hl e).elim
  · have g1 := List.length_pos_iff.2 (numSpec_digits h1).2.1
    have g2 := List.length_pos_iff.2 (numSpec_digits h2).2.1
    rw [e]
    simp only [List.length_append, List.length_cons, List.length_nil]
    omega
theorem last_at {s : ByteArray} (h : 0 < s.size) : s.data.toList.getLast? = some (s[s.size - 1]'(by omega)) := by
  rw [List.getLast?_eq_getElem?, len_toList, List.getElem?_eq_getElem (by rw [len_toList]; omega)]
  rfl
theorem first_at {s : ByteArray} (h : 0 < s.size) : s.data.toList.head? = some s[0] := by rw [cons_of s h]; rfl
theorem mid_at (s : ByteArray) (_h : 2 ≤ s.size) : (s.extract 1 (s.size - 1)).data.toList = (s.data.toList.drop 1).take (s.data.toList.length - 2) := by
  rw [extract_toList, len_toList]
  congr 1
theorem midOf_yes {c d : UInt8} {s : ByteArray} (h : 2 ≤ s.size) (h1 : s[0]'(by omega) = c) (h2 : s[s.size - 1]'(by omega) = d) : midOf c d s.data.toList = some (s.extract 1 (s.size - 1)).data.toList := by
  unfold midOf
  rw [if_pos ⟨by rw [len_toList]; exact h, by rw [first_at (by omega), h1], by rw [last_at (by omega), h2]⟩, mid_at s h]
theorem midOf_no {c d : UInt8} {s : ByteArray} (h : ¬ (2 ≤ s.size ∧ (∃ h0 : 0 < s.size, s[0] = c ∧ s[s.size - 1]'(by omega) = d))) : midOf c d s.data.toList = none := by
  unfold midOf
  rw [if_neg]
  rintro ⟨g1, g2, g3⟩
  rw [len_toList] at g1
  have h0 : 0 < s.size := by omega
  rw [first_at h0] at g2
  rw [last_at h0] at g3
  exact h ⟨g1, h0, Option.some.inj g2, Option.some.inj g3⟩
def okS (o : Option Spc) : Option Spc :=
  match o with
  | some sp => if checkS sp = true then some sp else none
  | none => none
/-- What the document's Parse answers. -/
def ParseRs (w : World) (o : Option Spc) (e : Ending) (w' : World) : Prop :=
  match o with
  | none => e = .returned (.tuple #[zeroR, .int .i64 50]) ∧ Below w.heap.size w w'
  | some sp => ∃ a1 c1 a2 c2, e = .returned (.tuple #[spV sp a1 a2 c1 c2, .int .i64 0]) ∧ w'.ownsRow w.heap.size 3 1 (.slice a1 sp.path.length c1) sp.path.length (sp.path.map intV) ∧ w'.ownsRow w.heap.size 9 1 (.slice a2 sp.names.length c2) sp.names.length (sp.names.map strV) ∧ Below w.heap.size w w'
theorem BoxR.set2 {W : World} {S : Nat} {vp : Value} {k : Int} {vn : Value} {c : Bool} {a b : Int} (h : BoxR W S vp k vn c a b) (v : Value) : BoxR (W.setCell ⟨S, 2, none⟩ v) S vp k v c a b := by
  unfold BoxR at h ⊢
  simp [World.setCell, Array.getElem?_modify, h]
theorem BoxR.set345 {W : World} {S : Nat} {vp : Value} {k : Int} {vn : Value} {c : Bool} {a b : Int} (h : BoxR W S vp k vn c a b) (d : Bool) (x y : Int) : BoxR (((W.setCell ⟨S, 3, none⟩ (.bool d)).setCell ⟨S, 4, none⟩ (.int .i64 x)).setCell ⟨S, 5, none⟩ (.int .i64 y)) S vp k vn d x y := by
  unfold BoxR at h ⊢
  simp [World.setCell, Array.getElem?_modify, h]
theorem own_ne {X j base : Nat} {u : Value} {W : World} {e : TypeId} {v : Value} {n : Nat} {xs : List Value} (h : W.ownsRow base e 1 v n xs) (hne : v.ownBlock ≠ some X) : (W.setCell ⟨X, j, none⟩ u).ownsRow base e 1 v n xs := by
  refine h.kept (row := some X) (grownBy_setCell W ⟨X, j, none⟩ u) ?_
  rcases hv : v.ownBlock with _ | q
  · simp
  · right
    intro e
    rw [hv] at hne
    exact hne (by first | exact e | exact e.symm | (cases e; rfl))
def cutM (o1 o2 : Option Nat) (f : Bool) : Option (Bool × Int × Int) :=
  match o1, o2 with
  | some a, some b => if f = true then some (true, (a : Int), (b : Int)) else none
  | _, _ => none
theorem cutR_mid {l t : List UInt8} (h : l ≠ []) (hm : midOf 60 62 l = some t) : cutR l = cutM (numSpec (headR 46 t).1) (numSpec (headR 46 t).2.1) (headR 46 t).2.2 := by
  unfold cutR cutM
  rw [if_neg h, hm]
  simp only
  rcases numSpec (headR 46 t).1 with _ | a <;> rcases numSpec (headR 46 t).2.1 with _ | b <;> rfl
theorem cutM_f (o1 o2 : Option Nat) : cutM o1 o2 false = none := by rcases o1 with _ | a <;> rcases o2 with _ | b <;> rfl
theorem cutM_1 (o2 : Option Nat) (f : Bool) : cutM none o2 f = none := by rcases o2 with _ | b <;> rfl
theorem cutM_2 (o1 : Option Nat) (f : Bool) : cutM o1 none f = none := by rcases o1 with _ | b <;> rfl
set_option maxRecDepth 100000 in
set_option maxHeartbeats 16000000 in
theorem refParse_any (s : ByteArray) (w : World) (hl : s.size ≤ 100000) :
    Calls Tryz.prog 9 #[.string s] w (ParseRs w (okS (specR s.data.toList))) := by
  obtain ⟨O, hO⟩ : ∃ O, O = okS (specR s.data.toList) := ⟨_, rfl⟩
  rw [← hO]
  have HOe := Lib.hid hO.symm
  obtain ⟨W1, hW1⟩ : ∃ W1, W1 = w.alloc (.cells #[.slice none 0 0, .int .i64 0, .slice none 0 0, .bool false, .int .i64 0, .int .i64 0] 30) := ⟨_, rfl⟩
  have HB1 : Hid (Below w.heap.size w W1) := by rw [hW1]; exact (Below.refl w.heap.size w).alloc (Nat.le_refl _) _
  have hR0 : BoxR W1 w.heap.size (.slice none 0 0) 0 (.slice none 0 0) false 0 0 := by
    unfold BoxR
    rw [hW1]
    exact heap_alloc_new _ _
  have HW1 := Lib.hid hW1.symm
  obtain ⟨R, hR⟩ : ∃ R, R = w.heap.size := ⟨_, rfl⟩
  rw [← hR] at hR0
  have HRe := Lib.hid hR
  have HR0 := Lib.hid hR0
  have HLa : Hid (∀ W, Calls Tryz.prog 18 #[.string s, .int .u8 93] W (LastIs 93 s W)) := fun W => refLast_sec s 93 W (by omega)
  have HH32 : Hid (∀ (T : ByteArray) W, T.size ≤ 1000000 → Calls Tryz.prog 19 #[.string T, .int .u8 32] W (HeadIs 32 T W)) := fun T W h => refHead_sec T 32 W (by omega)
  have HH46 : Hid (∀ (T : ByteArray) W, T.size ≤ 1000000 → Calls Tryz.prog 19 #[.string T, .int .u8 46] W (HeadIs 46 T W)) := fun T W h => refHead_sec T 46 W (by omega)
  have HWh := Lib.hid (fun (T : ByteArray) W (h : T.size ≤ 1000000) => refWhat_any T W h)
  have HNs := Lib.hid (fun (T : ByteArray) W (h : T.size ≤ 1000000) => refNames_any T W h)
  have HNu := Lib.hid (fun (T : ByteArray) W (h : T.size ≤ 1000000) => refNumber_any T W (by omega))
  unfold LastIs at HLa
  unfold HeadIs at HH32 HH46
  clear hO hW1 hR0 hR
  go_enter Tryz.func9, Tryz.ntmps9
  go_upto_region 1 with fail
  rw [HW1.out, ← HRe.out]
  by_cases h91 : s.data.toList.head? = some 91
  · have h0p : 0 < s.size := by
      rw [← len_toList]
      cases h : s.data.toList with
      | nil => rw [h] at h91; cases h91
      | cons a l => simp
    have hs0 : s[0] = 91 := by rw [first_at h0p] at h91; exact Option.some.inj h91
    have e0 : s.toList.isEmpty = false := by rw [List.isEmpty_eq_false_iff]; exact fun h => by have := (toList_nil_iff s).1 h; omega
    have b91 : ((s[0].toNat : Int) != 91) = false := bne_no (by rw [hs0]; rfl)
    have H91 := Lib.hid h91
    clear h91 hs0
    go_wp2_with fail
    with_reducible refine (HLa.out W1).mono ?_
    rintro e w2 ⟨rfl, hla⟩
    rcases hla with ⟨i, rfl, hi, hlr⟩ | ⟨rfl, hlr⟩
    · have hi1 : 1 ≤ i := by
        refine Classical.byContradiction (fun hn => ?_)
        obtain rfl : i = 0 := by omega
        have := (lastR_sound hlr).1
        have h2 := H91.out
        rw [this] at h2
        simp at h2
      obtain ⟨F, hF⟩ : ∃ F, F = s.extract 1 i := ⟨_, rfl⟩
      obtain ⟨TL, hTL⟩ : ∃ TL, TL = s.extract (i + 1) s.size := ⟨_, rfl⟩
      have hFl : F.data.toList = (s.data.toList.take i).drop 1 := by
        rw [hF, extract_toList, List.drop_take]
      have hTl : TL.data.toList = s.data.toList.drop (i + 1) := by
        rw [hTL, extract_toList, List.take_of_length_le (by rw [List.length_drop, len_toList]; omega)]
      have hFs : F.size ≤ s.size := by rw [hF, extract_len]; omega
      have hTs : TL.size ≤ s.size := by rw [hTL, extract_len]; omega
      have HM : Hid (O = okS (specM (askR (F.size + 1) (headR 32 F.data.toList).1 []) (nOptR F.data.toList) (cutR TL.data.toList))) := by
        unfold Hid
        rw [← HOe.out, specR_at H91.out hlr, ← hFl, ← hTl, askR_fu (m := F.size + 1) (by have := (headR_len 32 F.data.toList).1; rw [len_toList] at this; rw [len_toList]; omega) (by have := (headR_len 32 F.data.toList).1; rw [len_toList] at this; omega)]
      have HFe := Lib.hid hF.symm
      have HTe := Lib.hid hTL.symm
      have ii0 : ¬ (i : Int) < 0 := by omega
      have ii1 : 1 ≤ (i : Int) := by omega
      have ii2 : (i : Int) ≤ (s.size : Int) := by omega
      have ii3 : (i : Int) + 1 ≤ (s.size : Int) := by omega
      clear hF hTL hFl hTl hlr
      go_upto_region 8 with fail
      rw [HFe.out, HTe.out]
      go_cut [43] (fun v43 wx => v43 = .bool (decide (TL.size ≠ 0)) ∧ W1 = wx)
      case first =>
        by_cases t0 : TL.size = 0
        · have et : TL.toList.isEmpty = true := by rw [List.isEmpty_iff]; exact (toList_nil_iff TL).2 t0
          have HD : Hid (decide (TL.size ≠ 0) = false) := decide_eq_false (fun h => h t0)
          clear t0
          go_wp2_with fail
          go_meet
          exact ⟨by rw [HD.out], rfl⟩
        · have et : TL.toList.isEmpty = false := by rw [List.isEmpty_eq_false_iff]; exact fun h => t0 ((toList_nil_iff TL).1 h)
          have HD : Hid (decide (TL.size ≠ 0) = true) := decide_eq_true t0
          clear t0
          go_wp2_with fail
          go_meet
          exact ⟨by rw [HD.out], rfl⟩
      case rest =>
      obtain ⟨rfl, rfl⟩ := hcut
      go_upto_if 43 with fail
      go_cut [] (fun wx => Hid (TL.data.toList = [] ∧ TL.size = 0 ∨ (5 ≤ TL.size ∧ midOf 60 62 TL.data.toList = some (TL.extract 1 (TL.size - 1)).data.toList)) ∧ W1 = wx)
      case first =>
        by_cases t0 : TL.size = 0
        · have HD : Hid (decide (TL.size ≠ 0) = false) := decide_eq_false (fun h => h t0)
          rw [HD.out]
          go_wp2_with fail
          go_meet
          exact ⟨.inl ⟨List.eq_nil_of_length_eq_zero (by rw [len_toList]; exact t0), t0⟩, rfl⟩
        · have HD : Hid (decide (TL.size ≠ 0) = true) := decide_eq_true t0
          rw [HD.out]
          have htn : TL.data.toList ≠ [] := fun h => t0 (by rw [← len_toList, h]; rfl)
          have h0t : 0 < TL.size := by omega
          by_cases t5 : TL.size < 5
          · have HE : Hid (O = none) := by
              have hc : cutR TL.data.toList = none := by
                cases hx : cutR TL.data.toList with
                | none => rfl
                | some x =>
                  have h5 := cutR_five hx htn
                  rw [len_toList] at h5
                  omega
              unfold Hid; rw [HM.out, hc, specM_c]; rfl
            have t5i : (TL.size : Int) < 5 := by omega
            clear htn t0
            go_wp2_with (refine wpList_store_row' rfl 30 (.tmp 2) (.tmp 60) rfl R #[.slice none 0 0, .int .i64 0, .slice none 0 0, .bool false, .int .i64 0, .int .i64 0] rfl rfl 30 _ HR0.out (by kernel_rfl) rfl (by kernel_rfl) ?_; intro WE hWE)
            (try simp only [Exit.inBlock, Exit.then])
            have hrow := setRow_heap _ R _ #[.slice none 0 0, .int .i64 0, .slice none 0 0, .bool false, .int .i64 0, .int .i64 0] _ _ HR0.out
            rw [← hWE.out] at hrow
            refine bodyPost_ret (results_cell_row2 (P := Tryz.prog) Tryz.results9 _ _ R 30 _ (0, 0) _ rfl hrow Tryz.underlying30 rfl (by kernel_rfl)) rfl ?_
            rw [hWE.out, HE.out]
            exact ⟨rfl, below_setRow HB1.out (by have := HRe.out; omega) _⟩
          · have t5i : ¬ (TL.size : Int) < 5 := by omega
            have d5 : decide ((TL.size : Int) < 5) = false := decide_eq_false t5i
            by_cases f60 : TL[0] = 60
            · have b60 : ((TL[0].toNat : Int) != 60) = false := bne_no (by rw [f60]; rfl)
              by_cases l62 : TL[TL.size - 1] = 62
              · have b62 : ((TL[TL.size - 1].toNat : Int) != 62) = false := bne_no (by rw [l62]; rfl)
                have HMid := Lib.hid (midOf_yes (by omega) f60 l62)
                clear htn t0 f60 l62
                go_wp2_with fail
                go_meet
                exact ⟨.inr ⟨by omega, HMid.out⟩, rfl⟩
              · have b62 : ((TL[TL.size - 1].toNat : Int) != 62) = true := bne_yes (fun e => l62 (toNat_eq (by have : (62 : UInt8).toNat = 62 := rfl; omega)))
                have HE : Hid (O = none) := by
                  have hc : cutR TL.data.toList = none := by
                    unfold cutR
                    rw [if_neg htn, midOf_no (fun h => l62 h.2.2.2)]
                  unfold Hid; rw [HM.out, hc, specM_c]; rfl
                clear htn t0 f60 l62
                go_wp2_with (refine wpList_store_row' rfl 30 (.tmp 2) (.tmp 60) rfl R #[.slice none 0 0, .int .i64 0, .slice none 0 0, .bool false, .int .i64 0, .int .i64 0] rfl rfl 30 _ HR0.out (by kernel_rfl) rfl (by kernel_rfl) ?_; intro WE hWE)
                (try simp only [Exit.inBlock, Exit.then])
                have hrow := setRow_heap _ R _ #[.slice none 0 0, .int .i64 0, .slice none 0 0, .bool false, .int .i64 0, .int .i64 0] _ _ HR0.out
                rw [← hWE.out] at hrow
                refine bodyPost_ret (results_cell_row2 (P := Tryz.prog) Tryz.results9 _ _ R 30 _ (0, 0) _ rfl hrow Tryz.underlying30 rfl (by kernel_rfl)) rfl ?_
                rw [hWE.out, HE.out]
                exact ⟨rfl, below_setRow HB1.out (by have := HRe.out; omega) _⟩
            · have b60 : ((TL[0].toNat : Int) != 60) = true := bne_yes (fun e => f60 (toNat_eq (by have : (60 : UInt8).toNat = 60 := rfl; omega)))
              have HE : Hid (O = none) := by
                have hc : cutR TL.data.toList = none := by
                  unfold cutR
                  rw [if_neg htn, midOf_no (fun h => f60 h.2.2.1)]
                unfold Hid; rw [HM.out, hc, specM_c]; rfl
              clear htn t0 f60
              go_wp2_with (refine wpList_store_row' rfl 30 (.tmp 2) (.tmp 60) rfl R #[.slice none 0 0, .int .i64 0, .slice none 0 0, .bool false, .int .i64 0, .int .i64 0] rfl rfl 30 _ HR0.out (by kernel_rfl) rfl (by kernel_rfl) ?_; intro WE hWE)
              (try simp only [Exit.inBlock, Exit.then])
              have hrow := setRow_heap _ R _ #[.slice none 0 0, .int .i64 0, .slice none 0 0, .bool false, .int .i64 0, .int .i64 0] _ _ HR0.out
              rw [← hWE.out] at hrow
              refine bodyPost_ret (results_cell_row2 (P := Tryz.prog) Tryz.results9 _ _ R 30 _ (0, 0) _ rfl hrow Tryz.underlying30 rfl (by kernel_rfl)) rfl ?_
              rw [hWE.out, HE.out]
              exact ⟨rfl, below_setRow HB1.out (by have := HRe.out; omega) _⟩
      case rest =>
      obtain ⟨HTail, rfl⟩ := hcut
      have hFd : (headR 32 F.data.toList).1.length ≤ F.data.toList.length ∧ (headR 32 F.data.toList).2.1.length ≤ F.data.toList.length := headR_len 32 F.data.toList
      rw [len_toList] at hFd
      go_wp2_with fail
      with_reducible refine (HH32.out F W1 (by omega)).mono ?_
      rintro e w2 ⟨A, B, f, rfl, hh, hb2⟩
      rw [hh] at hFd
      simp only [len_toList] at hFd
      have HB2 := Lib.hid (HB1.out.trans (hb2.mono HB1.out.size))
      have HR2 := Lib.hid (HR0.out.below hb2)
      have HM2 : Hid (O = okS (specM (askR (A.size + 1) A.data.toList []) (if f = true then (match midOf 40 41 B.data.toList with | none => none | some t => nmsR (t.length + 1) t []) else some []) (cutR TL.data.toList))) := by
        unfold Hid
        rw [HM.out]
        unfold nOptR
        rw [hh]
        simp only
        rw [askR_fu (m := A.size + 1) (by rw [len_toList]; omega) (by rw [len_toList]; omega)]
        rfl
      have hWa := HWh.out A w2 (by omega)
      clear hh hb2 HM
      cases ha : askR (A.size + 1) A.data.toList [] with
      | none =>
        rw [ha] at hWa
        unfold WhatIs zeroR at hWa
        simp only at hWa
        have HWa := Lib.hid hWa
        have HE : Hid (O = none) := by unfold Hid; rw [HM2.out, ha, specM_a]; rfl
        clear ha hWa
        go_wp2_with fail
        with_reducible refine HWa.out.mono ?_
        rintro e w3 ⟨rfl, hb3⟩
        have HB3 := Lib.hid (HB2.out.trans (hb3.mono HB2.out.size))
        have HR3 := Lib.hid (HR2.out.below hb3)
        obtain ⟨W3, hW3⟩ : ∃ W3, W3 = w3.alloc (.cells #[.slice none 0 0, .int .i64 0, .slice none 0 0, .bool false, .int .i64 0, .int .i64 0] 30) := ⟨_, rfl⟩
        have hb33 : Below w3.heap.size w3 W3 := by rw [hW3]; exact (Below.refl _ _).alloc (Nat.le_refl _) _
        have HB4 := Lib.hid (HB3.out.trans (hb33.mono HB3.out.size))
        have HR4 := Lib.hid (HR3.out.below hb33)
        have HW3 := Lib.hid hW3.symm
        clear hb3 hb33 hW3
        go_upto_region 14 with fail
        rw [HW3.out]
        go_wp2_with (refine wpList_store_row' rfl 30 (.tmp 2) (.tmp 74) rfl R #[.slice none 0 0, .int .i64 0, .slice none 0 0, .bool false, .int .i64 0, .int .i64 0] rfl rfl 30 _ HR4.out (by kernel_rfl) rfl (by kernel_rfl) ?_; intro WE hWE)
        (try simp only [Exit.inBlock, Exit.then])
        have hrow := setRow_heap _ R _ #[.slice none 0 0, .int .i64 0, .slice none 0 0, .bool false, .int .i64 0, .int .i64 0] _ _ HR4.out
        rw [← hWE.out] at hrow
        refine bodyPost_ret (results_cell_row2 (P := Tryz.prog) Tryz.results9 _ _ R 30 _ (0, 0) _ rfl hrow Tryz.underlying30 rfl (by kernel_rfl)) rfl ?_
        rw [hWE.out, HE.out]
        exact ⟨rfl, below_setRow HB4.out (by have := HRe.out; omega) _⟩
      | some pk =>
        obtain ⟨p, k⟩ := pk
        have hpl := askR_plen ha
        rw [len_toList] at hpl
        rw [ha] at hWa
        unfold WhatIs at hWa
        simp only at hWa
        have HWa := Lib.hid hWa
        rw [ha] at HM2
        clear ha hWa
        go_wp2_with fail
        with_reducible refine HWa.out.mono ?_
        rintro e w3 ⟨ap, cp, rfl, ho3, hb3⟩
        obtain ⟨W3, hW3⟩ : ∃ W3, W3 = w3.alloc (.cells #[.slice ap p.length cp, .int .i64 (k : Int), .slice none 0 0, .bool false, .int .i64 0, .int .i64 0] 30) := ⟨_, rfl⟩
        have hb33 : Below w3.heap.size w3 W3 := by rw [hW3]; exact (Below.refl _ _).alloc (Nat.le_refl _) _
        have hb23 : Below w2.heap.size w2 W3 := hb3.trans (hb33.mono hb3.size)
        have hx3 : BoxR W3 w3.heap.size (.slice ap p.length cp) (k : Int) (.slice none 0 0) false 0 0 := by rw [hW3]; exact heap_alloc_new w3 _
        have HB3 := Lib.hid (HB2.out.trans (hb23.mono HB2.out.size))
        have HR3 := Lib.hid (HR2.out.below hb23)
        have HO3 : Hid (W3.ownsRow (R + 1) 3 1 (.slice ap p.length cp) p.length (p.map intV)) := own_base (ownsRow_below ho3 hb33) HR2.out.lt
        obtain ⟨X, hX⟩ : ∃ X, X = w3.heap.size := ⟨_, rfl⟩
        have hXR : R < X := by have := HRe.out; have := HR2.out.lt; have := hb3.size; omega
        rw [← hX] at hx3
        have HXe := Lib.hid hX
        have HX3 := Lib.hid hx3
        have HNo : Hid ((Value.slice ap p.length cp).ownBlock ≠ some X) := fun e => by have := (ho3.lt X e).2; omega
        have HZ3 : Hid (W3.heap.size = X + 1) := by unfold Hid; rw [hW3, hX]; simp
        have HW3 := Lib.hid hW3.symm
        clear hb3 hb33 hb23 hW3 hx3 hX ho3 HR2 HB2
        go_upto_region 14 with fail
        rw [HW3.out, ← HXe.out]
        go_upto_if 75 with fail
        go_cut [] (fun wx => ∃ (ns : List (List UInt8)) (an : Option Addr) (cn : Nat), Hid (ns.length ≤ 1000001 ∧ ∀ a ∈ ns, a.length ≤ 1000000) ∧ Hid (BoxR wx X (.slice ap p.length cp) (k : Int) (.slice an ns.length cn) false 0 0) ∧ Hid (BoxR wx R (.slice none 0 0) 0 (.slice none 0 0) false 0 0) ∧ Hid (wx.ownsRow (R + 1) 3 1 (.slice ap p.length cp) p.length (p.map intV)) ∧ Hid (wx.ownsRow (R + 1) 9 1 (.slice an ns.length cn) ns.length (ns.map strV)) ∧ Hid ((Value.slice an ns.length cn).ownBlock ≠ some X) ∧ Hid (Below w.heap.size w wx) ∧ Hid (O = okS (specM (some (p, k)) (some ns) (cutR TL.data.toList))))
        case first =>
          cases f with
          | false =>
            have HM3 : Hid (O = okS (specM (some (p, k)) (some []) (cutR TL.data.toList))) := by unfold Hid; rw [HM2.out, if_neg (by decide)]
            go_wp2_with fail
            go_meet
            exact ⟨[], none, 0, ⟨by simp, fun a h => by cases h⟩, HX3.out, HR3.out, HO3.out, ⟨rfl, .inl ⟨rfl, rfl⟩⟩, (fun e => by cases e), HB3.out, HM3.out⟩
          | true =>
            have HM3 : Hid (O = okS (specM (some (p, k)) (match midOf 40 41 B.data.toList with | none => none | some t => nmsR (t.length + 1) t []) (cutR TL.data.toList))) := by unfold Hid; rw [HM2.out, if_pos rfl]
            have HEm : Hid (midOf 40 41 B.data.toList = none → O = none) := fun h => by rw [HM3.out, h]; rfl
            by_cases b2 : B.size < 2
            · have b2i : (B.size : Int) < 2 := by omega
              have HE := Lib.hid (HEm.out (midOf_no (fun h => by omega)))
              go_wp2_with (refine wpList_store_row' rfl 30 (.tmp 2) (.tmp 92) rfl R #[.slice none 0 0, .int .i64 0, .slice none 0 0, .bool false, .int .i64 0, .int .i64 0] rfl rfl 30 _ HR3.out (by kernel_rfl) rfl (by kernel_rfl) ?_; intro WE hWE)
              (try simp only [Exit.inBlock, Exit.then])
              have hrow := setRow_heap _ R _ #[.slice none 0 0, .int .i64 0, .slice none 0 0, .bool false, .int .i64 0, .int .i64 0] _ _ HR3.out
              rw [← hWE.out] at hrow
              refine bodyPost_ret (results_cell_row2 (P := Tryz.prog) Tryz.results9 _ _ R 30 _ (0, 0) _ rfl hrow Tryz.underlying30 rfl (by kernel_rfl)) rfl ?_
              rw [hWE.out, HE.out]
              exact ⟨rfl, below_setRow HB3.out (by have := HRe.out; omega) _⟩
            · have b2i : ¬ (B.size : Int) < 2 := by omega
              have d2 : decide ((B.size : Int) < 2) = false := decide_eq_false b2i
              have h0B : 0 < B.size := by omega
              by_cases f40 : B[0] = 40
              · have b40 : ((B[0].toNat : Int) != 40) = false := bne_no (by rw [f40]; rfl)
                by_cases l41 : B[B.size - 1] = 41
                · have b41 : ((B[B.size - 1].toNat : Int) != 41) = false := bne_no (by rw [l41]; rfl)
                  obtain ⟨M, hM⟩ : ∃ M, M = B.extract 1 (B.size - 1) := ⟨_, rfl⟩
                  have hMid := midOf_yes (by omega) f40 l41
                  rw [← hM] at hMid
                  have hMs : M.size ≤ B.size := by rw [hM, extract_len]; omega
                  have HMe := Lib.hid hM.symm
                  have HM4 : Hid (O = okS (specM (some (p, k)) (nmsR (M.size + 1) M.data.toList []) (cutR TL.data.toList))) := by
                    unfold Hid
                    rw [HM3.out, hMid]
                    simp only
                    rw [len_toList]
                  have hNs := HNs.out M W3 (by omega)
                  have j1 : 1 ≤ (B.size : Int) - 1 := by omega
                  have j2 : (B.size : Int) - 1 ≤ (B.size : Int) := by omega
                  clear hM hMid f40 l41
                  cases hn : nmsR (M.size + 1) M.data.toList [] with
                  | none =>
                    rw [hn] at hNs
                    unfold NmsRs at hNs
                    simp only at hNs
                    have HNa := Lib.hid hNs
                    have HE : Hid (O = none) := by unfold Hid; rw [HM4.out, hn]; rfl
                    clear hNs hn
                    go_wp2_with fail
                    rw [HMe.out]
                    with_reducible refine HNa.out.mono ?_
                    rintro e w4 ⟨rfl, hb4⟩
                    have HB4 := Lib.hid (HB3.out.trans (hb4.mono HB3.out.size))
                    have HR4 := Lib.hid (HR3.out.below hb4)
                    clear hb4
                    go_wp2_with (refine wpList_store_row' rfl 30 (.tmp 2) (.tmp 104) rfl R #[.slice none 0 0, .int .i64 0, .slice none 0 0, .bool false, .int .i64 0, .int .i64 0] rfl rfl 30 _ HR4.out (by kernel_rfl) rfl (by kernel_rfl) ?_; intro WE hWE)
                    (try simp only [Exit.inBlock, Exit.then])
                    have hrow := setRow_heap _ R _ #[.slice none 0 0, .int .i64 0, .slice none 0 0, .bool false, .int .i64 0, .int .i64 0] _ _ HR4.out
                    rw [← hWE.out] at hrow
                    refine bodyPost_ret (results_cell_row2 (P := Tryz.prog) Tryz.results9 _ _ R 30 _ (0, 0) _ rfl hrow Tryz.underlying30 rfl (by kernel_rfl)) rfl ?_
                    rw [hWE.out, HE.out]
                    exact ⟨rfl, below_setRow HB4.out (by have := HRe.out; omega) _⟩
                  | some ns =>
                    have hnl := nmsR_nlen hn
                    rw [len_toList] at hnl
                    have HNl : Hid (ns.length ≤ 1000001 ∧ ∀ a ∈ ns, a.length ≤ 1000000) := ⟨by have := hnl.1; omega, fun a ha => by have := hnl.2 a ha; omega⟩
                    rw [hn] at hNs
                    unfold NmsRs at hNs
                    simp only at hNs
                    have HNa := Lib.hid hNs
                    have HM5 : Hid (O = okS (specM (some (p, k)) (some ns) (cutR TL.data.toList))) := by unfold Hid; rw [HM4.out, hn]
                    clear hNs hn hnl
                    go_wp2_with fail
                    rw [HMe.out]
                    with_reducible refine HNa.out.mono ?_
                    rintro e w4 ⟨an, cn, rfl, ho4, hb4⟩
                    have HB4 := Lib.hid (HB3.out.trans (hb4.mono HB3.out.size))
                    have HR4 := Lib.hid (HR3.out.below hb4)
                    have HX4 := Lib.hid (HX3.out.below hb4)
                    have HO4 := Lib.hid (ownsRow_below HO3.out hb4)
                    have hZ := HZ3.out
                    have k2 := HX4.out.c.2.2.1
                    have f2 := HX4.out.f 2
                    have HX5 := Lib.hid (HX4.out.set2 (.slice an ns.length cn))
                    have HR5 := Lib.hid (HR4.out.other (S := X) 2 (.slice an ns.length cn) (by omega))
                    have HO5 := Lib.hid (own_ne (X := X) (j := 2) (u := .slice an ns.length cn) HO4.out HNo.out)
                    have HN5 : Hid ((w4.setCell ⟨X, 2, none⟩ (.slice an ns.length cn)).ownsRow (R + 1) 9 1 (.slice an ns.length cn) ns.length (ns.map strV)) := own_base (own_set (S := X) (j := 2) (u := .slice an ns.length cn) ho4 (by omega)) (by omega)
                    have HB5 := Lib.hid (HB4.out.setCell (p := ⟨X, 2, none⟩) (by have := HRe.out; simp; omega) (.slice an ns.length cn))
                    have HNb : Hid ((Value.slice an ns.length cn).ownBlock ≠ some X) := fun e => by have := (ho4.lt X e).1; omega
                    clear hb4 ho4 hZ
                    go_wp2_with fail
                    go_meet
                    exact ⟨ns, an, cn, HNl.out, HX5.out, HR5.out, HO5.out, HN5.out, HNb.out, HB5.out, HM5.out⟩
                · have b41 : ((B[B.size - 1].toNat : Int) != 41) = true := bne_yes (fun e => l41 (toNat_eq (by have : (41 : UInt8).toNat = 41 := rfl; omega)))
                  have HE := Lib.hid (HEm.out (midOf_no (fun h => l41 h.2.2.2)))
                  clear f40 l41
                  go_wp2_with (refine wpList_store_row' rfl 30 (.tmp 2) (.tmp 92) rfl R #[.slice none 0 0, .int .i64 0, .slice none 0 0, .bool false, .int .i64 0, .int .i64 0] rfl rfl 30 _ HR3.out (by kernel_rfl) rfl (by kernel_rfl) ?_; intro WE hWE)
                  (try simp only [Exit.inBlock, Exit.then])
                  have hrow := setRow_heap _ R _ #[.slice none 0 0, .int .i64 0, .slice none 0 0, .bool false, .int .i64 0, .int .i64 0] _ _ HR3.out
                  rw [← hWE.out] at hrow
                  refine bodyPost_ret (results_cell_row2 (P := Tryz.prog) Tryz.results9 _ _ R 30 _ (0, 0) _ rfl hrow Tryz.underlying30 rfl (by kernel_rfl)) rfl ?_
                  rw [hWE.out, HE.out]
                  exact ⟨rfl, below_setRow HB3.out (by have := HRe.out; omega) _⟩
              · have b40 : ((B[0].toNat : Int) != 40) = true := bne_yes (fun e => f40 (toNat_eq (by have : (40 : UInt8).toNat = 40 := rfl; omega)))
                have HE := Lib.hid (HEm.out (midOf_no (fun h => f40 h.2.2.1)))
                clear f40
                go_wp2_with (refine wpList_store_row' rfl 30 (.tmp 2) (.tmp 92) rfl R #[.slice none 0 0, .int .i64 0, .slice none 0 0, .bool false, .int .i64 0, .int .i64 0] rfl rfl 30 _ HR3.out (by kernel_rfl) rfl (by kernel_rfl) ?_; intro WE hWE)
                (try simp only [Exit.inBlock, Exit.then])
                have hrow := setRow_heap _ R _ #[.slice none 0 0, .int .i64 0, .slice none 0 0, .bool false, .int .i64 0, .int .i64 0] _ _ HR3.out
                rw [← hWE.out] at hrow
                refine bodyPost_ret (results_cell_row2 (P := Tryz.prog) Tryz.results9 _ _ R 30 _ (0, 0) _ rfl hrow Tryz.underlying30 rfl (by kernel_rfl)) rfl ?_
                rw [hWE.out, HE.out]
                exact ⟨rfl, below_setRow HB3.out (by have := HRe.out; omega) _⟩
        case rest =>
          obtain ⟨ns, an, cn, HNl, HX4, HR4, HO4, HN4, HNb, HB4, HM4⟩ := hcut
          rcases HTail.out with ⟨htl, t0⟩ | ⟨t5, hmid⟩
          · have et : TL.toList.isEmpty = true := by rw [List.isEmpty_iff]; exact (toList_nil_iff TL).2 t0
            have HM5 : Hid (O = okS (some ⟨p, (k : Int), ns, false, 0, 0⟩)) := by unfold Hid; rw [HM4.out, htl]; rfl
            clear htl t0
            have hsp : SpA wc (⟨p, (k : Int), ns, false, 0, 0⟩ : Spc) ap an cp cn := ⟨rowOf_owned HO4.out, rowOf_owned HN4.out, fun a ha => by have := HNl.out.2 a ha; omega⟩
            have hck := refCheck_any (⟨p, (k : Int), ns, false, 0, 0⟩ : Spc) ap an cp cn wc hsp (by simp only; omega) (by have := HNl.out.1; simp only; omega)
            unfold spV errS at hck
            simp only at hck
            obtain ⟨ck, hck2⟩ : ∃ ck, ck = checkS (⟨p, (k : Int), ns, false, 0, 0⟩ : Spc) := ⟨_, rfl⟩
            rw [← hck2] at hck
            have HO7 : Hid (O = if ck = true then some (⟨p, (k : Int), ns, false, 0, 0⟩ : Spc) else none) := by unfold Hid; rw [HM5.out, hck2]; rfl
            have HK := Lib.hid hck
            obtain ⟨k0, k1, k2, k3, k4, k5⟩ := HX4.out.c
            clear hsp hck hck2
            cases ck with
            | false =>
              have HE : Hid (O = none) := by unfold Hid; rw [HO7.out, if_neg (by decide)]
              rw [if_neg (by decide)] at HK
              go_wp2_with fail
              with_reducible refine HK.out.mono ?_
              rintro e w9 ⟨rfl, hb9⟩
              have HB9 := Lib.hid (HB4.out.trans (hb9.mono HB4.out.size))
              have HR9 := Lib.hid (HR4.out.below hb9)
              clear hb9
              go_wp2_with (refine wpList_store_row' rfl 30 (.tmp 2) (.tmp 148) rfl R #[.slice none 0 0, .int .i64 0, .slice none 0 0, .bool false, .int .i64 0, .int .i64 0] rfl rfl 30 _ HR9.out (by kernel_rfl) rfl (by kernel_rfl) ?_; intro WE hWE)
              (try simp only [Exit.inBlock, Exit.then])
              have hrow := setRow_heap _ R _ #[.slice none 0 0, .int .i64 0, .slice none 0 0, .bool false, .int .i64 0, .int .i64 0] _ _ HR9.out
              rw [← hWE.out] at hrow
              refine bodyPost_ret (results_cell_row2 (P := Tryz.prog) Tryz.results9 _ _ R 30 _ (0, 0) _ rfl hrow Tryz.underlying30 rfl (by kernel_rfl)) rfl ?_
              rw [hWE.out, HE.out]
              exact ⟨rfl, below_setRow HB9.out (by have := HRe.out; omega) _⟩
            | true =>
              have HE : Hid (O = some (⟨p, (k : Int), ns, false, 0, 0⟩ : Spc)) := by unfold Hid; rw [HO7.out, if_pos rfl]
              rw [if_pos rfl] at HK
              go_wp2_with fail
              with_reducible refine HK.out.mono ?_
              rintro e w9 ⟨rfl, hb9⟩
              have HB9 := Lib.hid (HB4.out.trans (hb9.mono HB4.out.size))
              have HR9 := Lib.hid (HR4.out.below hb9)
              have HX9 := Lib.hid (HX4.out.below hb9)
              have HO9 := Lib.hid (ownsRow_below HO4.out hb9)
              have HN9 := Lib.hid (ownsRow_below HN4.out hb9)
              clear hb9 k0 k1 k2 k3 k4 k5
              obtain ⟨k0, k1, k2, k3, k4, k5⟩ := HX9.out.c
              go_wp2_with (refine wpList_store_row' rfl 30 (.tmp 2) (.tmp 149) rfl R #[.slice ap p.length cp, .int .i64 (k : Int), .slice an ns.length cn, .bool false, .int .i64 0, .int .i64 0] rfl rfl 30 _ HR9.out (by kernel_rfl) rfl (by kernel_rfl) ?_; intro WE hWE)
              (try simp only [Exit.inBlock, Exit.then])
              have hrow := setRow_heap _ R _ #[.slice ap p.length cp, .int .i64 (k : Int), .slice an ns.length cn, .bool false, .int .i64 0, .int .i64 0] _ _ HR9.out
              rw [← hWE.out] at hrow
              refine bodyPost_ret (results_cell_row2 (P := Tryz.prog) Tryz.results9 _ _ R 30 _ (0, 0) _ rfl hrow Tryz.underlying30 rfl (by kernel_rfl)) rfl ?_
              rw [hWE.out, HE.out]
              exact ⟨ap, cp, an, cn, rfl, own_base (base := R + 1) (own_row (R := R) HO9.out (by omega) _) (by have := HRe.out; omega), own_base (base := R + 1) (own_row (R := R) HN9.out (by omega) _) (by have := HRe.out; omega), below_setRow HB9.out (by have := HRe.out; omega) _⟩
          · have et : TL.toList.isEmpty = false := by rw [List.isEmpty_eq_false_iff]; exact fun h => by have := (toList_nil_iff TL).1 h; omega
            have htn : TL.data.toList ≠ [] := fun h => by have h2 := congrArg List.length h; rw [len_toList] at h2; simp only [List.length_nil] at h2; omega
            have hcm := cutR_mid htn hmid
            obtain ⟨M, hM⟩ : ∃ M, M = TL.extract 1 (TL.size - 1) := ⟨_, rfl⟩
            rw [← hM] at hcm
            have hMs : M.size ≤ TL.size := by rw [hM, extract_len]; omega
            have HMe := Lib.hid hM.symm
            have j1 : 1 ≤ (TL.size : Int) - 1 := by omega
            have j2 : (TL.size : Int) - 1 ≤ (TL.size : Int) := by omega
            have hMd := headR_len 46 M.data.toList
            rw [len_toList] at hMd
            clear hM hmid htn
            go_wp2_with fail
            rw [HMe.out]
            with_reducible refine (HH46.out M wc (by omega)).mono ?_
            rintro e w5 ⟨A2, B2, f2, rfl, hh2, hb5⟩
            rw [hh2] at hMd hcm
            simp only [len_toList] at hMd hcm
            have HB5 := Lib.hid (HB4.out.trans (hb5.mono HB4.out.size))
            have HR5 := Lib.hid (HR4.out.below hb5)
            have HX5 := Lib.hid (HX4.out.below hb5)
            have HO5 := Lib.hid (ownsRow_below HO4.out hb5)
            have HN5 := Lib.hid (ownsRow_below HN4.out hb5)
            have hN1 := HNu.out A2 w5 (by omega)
            have hN2 := HNu.out B2 w5 (by omega)
            have HCm := Lib.hid hcm
            clear hh2 hb5 hcm
            cases f2 with
            | false =>
              have HE : Hid (O = none) := by unfold Hid; rw [HM4.out, HCm.out, cutM_f]; rfl
              unfold numV at hN1 hN2
              have HN1 := Lib.hid hN1
              have HN2 := Lib.hid hN2
              clear hN1 hN2
              go_wp2_with fail
              with_reducible refine HN1.out.mono ?_
              rintro e w6 ⟨rfl, rfl⟩
              go_wp2_with fail
              with_reducible refine HN2.out.mono ?_
              rintro e w6 ⟨rfl, rfl⟩
              go_wp2_with (refine wpList_store_row' rfl 30 (.tmp 2) (.tmp 139) rfl R #[.slice none 0 0, .int .i64 0, .slice none 0 0, .bool false, .int .i64 0, .int .i64 0] rfl rfl 30 _ HR5.out (by kernel_rfl) rfl (by kernel_rfl) ?_; intro WE hWE)
              (try simp only [Exit.inBlock, Exit.then])
              have hrow := setRow_heap _ R _ #[.slice none 0 0, .int .i64 0, .slice none 0 0, .bool false, .int .i64 0, .int .i64 0] _ _ HR5.out
              rw [← hWE.out] at hrow
              refine bodyPost_ret (results_cell_row2 (P := Tryz.prog) Tryz.results9 _ _ R 30 _ (0, 0) _ rfl hrow Tryz.underlying30 rfl (by kernel_rfl)) rfl ?_
              rw [hWE.out, HE.out]
              exact ⟨rfl, below_setRow HB5.out (by have := HRe.out; omega) _⟩
            | true =>
              cases h1 : numSpec A2.data.toList with
              | none =>
                have HE : Hid (O = none) := by unfold Hid; rw [HM4.out, HCm.out, h1, cutM_1]; rfl
                rw [numV_no' h1] at hN1
                unfold numV at hN2
                have HN1 := Lib.hid hN1
                have HN2 := Lib.hid hN2
                clear hN1 hN2 h1
                go_wp2_with fail
                with_reducible refine HN1.out.mono ?_
                rintro e w6 ⟨rfl, rfl⟩
                go_wp2_with fail
                with_reducible refine HN2.out.mono ?_
                rintro e w6 ⟨rfl, rfl⟩
                go_wp2_with (refine wpList_store_row' rfl 30 (.tmp 2) (.tmp 139) rfl R #[.slice none 0 0, .int .i64 0, .slice none 0 0, .bool false, .int .i64 0, .int .i64 0] rfl rfl 30 _ HR5.out (by kernel_rfl) rfl (by kernel_rfl) ?_; intro WE hWE)
                (try simp only [Exit.inBlock, Exit.then])
                have hrow := setRow_heap _ R _ #[.slice none 0 0, .int .i64 0, .slice none 0 0, .bool false, .int .i64 0, .int .i64 0] _ _ HR5.out
                rw [← hWE.out] at hrow
                refine bodyPost_ret (results_cell_row2 (P := Tryz.prog) Tryz.results9 _ _ R 30 _ (0, 0) _ rfl hrow Tryz.underlying30 rfl (by kernel_rfl)) rfl ?_
                rw [hWE.out, HE.out]
                exact ⟨rfl, below_setRow HB5.out (by have := HRe.out; omega) _⟩
              | some a =>
                rw [numV_yes' h1] at hN1
                cases h2 : numSpec B2.data.toList with
                | none =>
                  have HE : Hid (O = none) := by unfold Hid; rw [HM4.out, HCm.out, h2, cutM_2]; rfl
                  rw [numV_no' h2] at hN2
                  have HN1 := Lib.hid hN1
                  have HN2 := Lib.hid hN2
                  clear hN1 hN2 h1 h2
                  go_wp2_with fail
                  with_reducible refine HN1.out.mono ?_
                  rintro e w6 ⟨rfl, rfl⟩
                  go_wp2_with fail
                  with_reducible refine HN2.out.mono ?_
                  rintro e w6 ⟨rfl, rfl⟩
                  go_wp2_with (refine wpList_store_row' rfl 30 (.tmp 2) (.tmp 139) rfl R #[.slice none 0 0, .int .i64 0, .slice none 0 0, .bool false, .int .i64 0, .int .i64 0] rfl rfl 30 _ HR5.out (by kernel_rfl) rfl (by kernel_rfl) ?_; intro WE hWE)
                  (try simp only [Exit.inBlock, Exit.then])
                  have hrow := setRow_heap _ R _ #[.slice none 0 0, .int .i64 0, .slice none 0 0, .bool false, .int .i64 0, .int .i64 0] _ _ HR5.out
                  rw [← hWE.out] at hrow
                  refine bodyPost_ret (results_cell_row2 (P := Tryz.prog) Tryz.results9 _ _ R 30 _ (0, 0) _ rfl hrow Tryz.underlying30 rfl (by kernel_rfl)) rfl ?_
                  rw [hWE.out, HE.out]
                  exact ⟨rfl, below_setRow HB5.out (by have := HRe.out; omega) _⟩
                | some b =>
                  have HM5 : Hid (O = okS (some ⟨p, (k : Int), ns, true, (a : Int), (b : Int)⟩)) := by unfold Hid; rw [HM4.out, HCm.out, h1, h2]; rfl
                  rw [numV_yes' h2] at hN2
                  have HN1 := Lib.hid hN1
                  have HN2 := Lib.hid hN2
                  obtain ⟨W6, hW6⟩ : ∃ W6, W6 = ((w5.setCell ⟨X, 3, none⟩ (.bool true)).setCell ⟨X, 4, none⟩ (.int .i64 (a : Int))).setCell ⟨X, 5, none⟩ (.int .i64 (b : Int)) := ⟨_, rfl⟩
                  have hwX : w.heap.size ≤ X := by have := HRe.out; omega
                  have HX6 : Hid (BoxR W6 X (.slice ap p.length cp) (k : Int) (.slice an ns.length cn) true (a : Int) (b : Int)) := by rw [hW6]; exact HX5.out.set345 true _ _
                  have HR6 : Hid (BoxR W6 R (.slice none 0 0) 0 (.slice none 0 0) false 0 0) := by rw [hW6]; exact ((HR5.out.other (S := X) 3 _ (by omega)).other (S := X) 4 _ (by omega)).other (S := X) 5 _ (by omega)
                  have HO6 : Hid (W6.ownsRow (R + 1) 3 1 (.slice ap p.length cp) p.length (p.map intV)) := by rw [hW6]; exact own_ne (own_ne (own_ne HO5.out HNo.out) HNo.out) HNo.out
                  have HN6 : Hid (W6.ownsRow (R + 1) 9 1 (.slice an ns.length cn) ns.length (ns.map strV)) := by rw [hW6]; exact own_ne (own_ne (own_ne HN5.out HNb.out) HNb.out) HNb.out
                  have HB6 : Hid (Below w.heap.size w W6) := by rw [hW6]; exact ((HB5.out.setCell (p := ⟨X, 3, none⟩) hwX _).setCell (p := ⟨X, 4, none⟩) hwX _).setCell (p := ⟨X, 5, none⟩) hwX _
                  have HW6 := Lib.hid hW6.symm
                  have q3 := HX5.out.f 3
                  have q4 := HX5.out.f 4
                  have q5 := HX5.out.f 5
                  obtain ⟨k0, k1, k2, k3, k4, k5⟩ := HX5.out.c
                  clear hN1 hN2 h1 h2 hW6
                  go_wp2_with fail
                  with_reducible refine HN1.out.mono ?_
                  rintro e w6 ⟨rfl, rfl⟩
                  go_wp2_with fail
                  with_reducible refine HN2.out.mono ?_
                  rintro e w6 ⟨rfl, rfl⟩
                  go_upto_region 32 with fail
                  rw [HW6.out]
                  clear k0 k1 k2 k3 k4 k5 q3 q4 q5
                  have hsp : SpA W6 (⟨p, (k : Int), ns, true, (a : Int), (b : Int)⟩ : Spc) ap an cp cn := ⟨rowOf_owned HO6.out, rowOf_owned HN6.out, fun a ha => by have := HNl.out.2 a ha; omega⟩
                  have hck := refCheck_any (⟨p, (k : Int), ns, true, (a : Int), (b : Int)⟩ : Spc) ap an cp cn W6 hsp (by simp only; omega) (by have := HNl.out.1; simp only; omega)
                  unfold spV errS at hck
                  simp only at hck
                  obtain ⟨ck, hck2⟩ : ∃ ck, ck = checkS (⟨p, (k : Int), ns, true, (a : Int), (b : Int)⟩ : Spc) := ⟨_, rfl⟩
                  rw [← hck2] at hck
                  have HO7 : Hid (O = if ck = true then some (⟨p, (k : Int), ns, true, (a : Int), (b : Int)⟩ : Spc) else none) := by unfold Hid; rw [HM5.out, hck2]; rfl
                  have HK := Lib.hid hck
                  obtain ⟨k0, k1, k2, k3, k4, k5⟩ := HX6.out.c
                  clear hsp hck hck2
                  cases ck with
                  | false =>
                    have HE : Hid (O = none) := by unfold Hid; rw [HO7.out, if_neg (by decide)]
                    rw [if_neg (by decide)] at HK
                    go_wp2_with fail
                    with_reducible refine HK.out.mono ?_
                    rintro e w9 ⟨rfl, hb9⟩
                    have HB9 := Lib.hid (HB6.out.trans (hb9.mono HB6.out.size))
                    have HR9 := Lib.hid (HR6.out.below hb9)
                    clear hb9
                    go_wp2_with (refine wpList_store_row' rfl 30 (.tmp 2) (.tmp 148) rfl R #[.slice none 0 0, .int .i64 0, .slice none 0 0, .bool false, .int .i64 0, .int .i64 0] rfl rfl 30 _ HR9.out (by kernel_rfl) rfl (by kernel_rfl) ?_; intro WE hWE)
                    (try simp only [Exit.inBlock, Exit.then])
                    have hrow := setRow_heap _ R _ #[.slice none 0 0, .int .i64 0, .slice none 0 0, .bool false, .int .i64 0, .int .i64 0] _ _ HR9.out
                    rw [← hWE.out] at hrow
                    refine bodyPost_ret (results_cell_row2 (P := Tryz.prog) Tryz.results9 _ _ R 30 _ (0, 0) _ rfl hrow Tryz.underlying30 rfl (by kernel_rfl)) rfl ?_
                    rw [hWE.out, HE.out]
                    exact ⟨rfl, below_setRow HB9.out (by have := HRe.out; omega) _⟩
                  | true =>
                    have HE : Hid (O = some (⟨p, (k : Int), ns, true, (a : Int), (b : Int)⟩ : Spc)) := by unfold Hid; rw [HO7.out, if_pos rfl]
                    rw [if_pos rfl] at HK
                    go_wp2_with fail
                    with_reducible refine HK.out.mono ?_
                    rintro e w9 ⟨rfl, hb9⟩
                    have HB9 := Lib.hid (HB6.out.trans (hb9.mono HB6.out.size))
                    have HR9 := Lib.hid (HR6.out.below hb9)
                    have HX9 := Lib.hid (HX6.out.below hb9)
                    have HO9 := Lib.hid (ownsRow_below HO6.out hb9)
                    have HN9 := Lib.hid (ownsRow_below HN6.out hb9)
                    clear hb9 k0 k1 k2 k3 k4 k5
                    obtain ⟨k0, k1, k2, k3, k4, k5⟩ := HX9.out.c
                    go_wp2_with (refine wpList_store_row' rfl 30 (.tmp 2) (.tmp 149) rfl R #[.slice ap p.length cp, .int .i64 (k : Int), .slice an ns.length cn, .bool true, .int .i64 (a : Int), .int .i64 (b : Int)] rfl rfl 30 _ HR9.out (by kernel_rfl) rfl (by kernel_rfl) ?_; intro WE hWE)
                    (try simp only [Exit.inBlock, Exit.then])
                    have hrow := setRow_heap _ R _ #[.slice ap p.length cp, .int .i64 (k : Int), .slice an ns.length cn, .bool true, .int .i64 (a : Int), .int .i64 (b : Int)] _ _ HR9.out
                    rw [← hWE.out] at hrow
                    refine bodyPost_ret (results_cell_row2 (P := Tryz.prog) Tryz.results9 _ _ R 30 _ (0, 0) _ rfl hrow Tryz.underlying30 rfl (by kernel_rfl)) rfl ?_
                    rw [hWE.out, HE.out]
                    exact ⟨ap, cp, an, cn, rfl, own_base (base := R + 1) (own_row (R := R) HO9.out (by omega) _) (by have := HRe.out; omega), own_base (base := R + 1) (own_row (R := R) HN9.out (by omega) _) (by have := HRe.out; omega), below_setRow HB9.out (by have := HRe.out; omega) _⟩
    · have HE : Hid (O = none) := by unfold Hid; rw [← HOe.out, specR_last hlr]; rfl
      clear hlr
      go_wp2_with (refine wpList_store_row' rfl 30 (.tmp 2) (.tmp 34) rfl R #[.slice none 0 0, .int .i64 0, .slice none 0 0, .bool false, .int .i64 0, .int .i64 0] rfl rfl 30 _ HR0.out (by kernel_rfl) rfl (by kernel_rfl) ?_; intro WE hWE)
      (try simp only [Exit.inBlock, Exit.then])
      have hrow := setRow_heap _ R _ #[.slice none 0 0, .int .i64 0, .slice none 0 0, .bool false, .int .i64 0, .int .i64 0] _ _ HR0.out
      rw [← hWE.out] at hrow
      refine bodyPost_ret (results_cell_row2 (P := Tryz.prog) Tryz.results9 _ _ R 30 _ (0, 0) _ rfl hrow Tryz.underlying30 rfl (by kernel_rfl)) rfl ?_
      rw [hWE.out, HE.out]
      exact ⟨rfl, below_setRow HB1.out (by have := HRe.out; omega) _⟩
  · have HE : Hid (O = none) := by unfold Hid; rw [← HOe.out, specR_head h91]; rfl
    by_cases h0 : s.size = 0
    · have e0 : s.toList.isEmpty = true := by rw [List.isEmpty_iff]; exact (toList_nil_iff s).2 h0
      clear h91
      go_wp2_with (refine wpList_store_row' rfl 30 (.tmp 2) (.tmp 29) rfl R #[.slice none 0 0, .int .i64 0, .slice none 0 0, .bool false, .int .i64 0, .int .i64 0] rfl rfl 30 _ HR0.out (by kernel_rfl) rfl (by kernel_rfl) ?_; intro WE hWE)
      (try simp only [Exit.inBlock, Exit.then])
      have hrow := setRow_heap _ R _ #[.slice none 0 0, .int .i64 0, .slice none 0 0, .bool false, .int .i64 0, .int .i64 0] _ _ HR0.out
      rw [← hWE.out] at hrow
      refine bodyPost_ret (results_cell_row2 (P := Tryz.prog) Tryz.results9 _ _ R 30 _ (0, 0) _ rfl hrow Tryz.underlying30 rfl (by kernel_rfl)) rfl ?_
      rw [hWE.out, HE.out]
      exact ⟨rfl, below_setRow HB1.out (by have := HRe.out; omega) _⟩
    · have h0p : 0 < s.size := by omega
      have e0 : s.toList.isEmpty = false := by rw [List.isEmpty_eq_false_iff]; exact fun h => h0 ((toList_nil_iff s).1 h)
      have b91 : ((s[0].toNat : Int) != 91) = true := bne_yes (fun e => h91 (by rw [first_at h0p]; exact congrArg some (toNat_eq (by have : (91 : UInt8).toNat = 91 := rfl; omega))))
      clear h91
      go_wp2_with (refine wpList_store_row' rfl 30 (.tmp 2) (.tmp 29) rfl R #[.slice none 0 0, .int .i64 0, .slice none 0 0, .bool false, .int .i64 0, .int .i64 0] rfl rfl 30 _ HR0.out (by kernel_rfl) rfl (by kernel_rfl) ?_; intro WE hWE)
      (try simp only [Exit.inBlock, Exit.then])
      have hrow := setRow_heap _ R _ #[.slice none 0 0, .int .i64 0, .slice none 0 0, .bool false, .int .i64 0, .int .i64 0] _ _ HR0.out
      rw [← hWE.out] at hrow
      refine bodyPost_ret (results_cell_row2 (P := Tryz.prog) Tryz.results9 _ _ R 30 _ (0, 0) _ rfl hrow Tryz.underlying30 rfl (by kernel_rfl)) rfl ?_
      rw [hWE.out, HE.out]
      exact ⟨rfl, below_setRow HB1.out (by have := HRe.out; omega) _⟩
end Go.Proofs.YthcleaflhljdlaaGreatDoor
