/- Layer 20: contracts of package structure: a head's values. -/
import Derived.Test.YtkmgflnmffdhjaaGreatDoorGbStC
import Derived.Test.YtkmgflnmffdhjaaGreatDoorGbStN
import Derived.Test.YtkmgflnmffdhjaaGreatDoorGbEnC
import Derived.Laws.MakeOwn
import Derived.Test.YtkmgflnmffdhjaaGreatDoorGbEnE
import Derived.Test.YtkmgflnmffdhjaaGreatDoorGbTrB
namespace Go.Proofs.YtkmgflnmffdhjaaGreatDoor
open Go Go.RowKit

/-- A box of two slices. -/
theorem box_two {W : World} {x y : Value} {t : TypeId} : (W.alloc (.cells #[x, y] t)).cell? ⟨W.heap.size, 0, none⟩ = some x ∧ (W.alloc (.cells #[x, y] t)).cell? ⟨W.heap.size, 1, none⟩ = some y := by
  have hh := heap_alloc_new W (.cells #[x, y] t)
  simp only [World.cell?, hh]
  exact ⟨rfl, rfl⟩
set_option maxRecDepth 100000 in
theorem hvalue_any (ao fo : Option Addr) (cap fc : Nat) (l : List UInt8) (fs : List Fld) (nm : ByteArray) (w : World) (h : HdAt w l fs ao cap fo fc) (hbig : l.length ≤ 100000) (hs : shortF fs) :
    Calls Tryz.prog 18 #[headV ao l.length cap fo fs.length fc, .string nm] w fun e w' => e = .returned (.string ⟨(valueS l fs nm.data.toList).toArray⟩) ∧ Below w.heap.size w w' := by
  have HV := Lib.hid (fun W (hb : Below w.heap.size w W) => value_any (.slice ao l.length cap) (.slice fo fs.length fc) l fs nm W (h.1.below hb) (by omega) (h.2.below hb) hs)
  obtain ⟨S, hS⟩ : ∃ S : ByteArray, S = ⟨(valueS l fs nm.data.toList).toArray⟩ := ⟨_, rfl⟩
  rw [← hS] at HV ⊢
  obtain ⟨X, hX⟩ : ∃ X, X = w.alloc (.cells #[.slice ao l.length cap, .slice fo fs.length fc] 65) := ⟨_, rfl⟩
  obtain ⟨b0, b1⟩ := box_two (W := w) (x := .slice ao l.length cap) (y := .slice fo fs.length fc) (t := 65)
  have HB : Hid (Below w.heap.size w X) := by rw [hX]; exact (Below.refl _ _).alloc (Nat.le_refl _) _
  rw [← hX] at b0 b1
  have HX := Lib.hid hX
  unfold headV
  clear h hs hS hX
  go_enter Tryz.func18, Tryz.ntmps18
  go_wp2_with fail
  rw [← HX.out]
  with_reducible refine (HV.out _ HB.out).mono ?_
  rintro e w1 ⟨rfl, hb1⟩
  go_wp2_with fail
  go_ret
  exact ⟨rfl, HB.out.trans (hb1.mono HB.out.size)⟩
theorem find_c (v : Value) (fs : List Fld) (nm : ByteArray) (w : World) (hv : rowF w v fs) (hs : shortF fs) :
    Calls Tryz.prog 69 #[v, .string nm] w fun e w' => ∃ n a b c, e = .returned (.tuple #[.agg #[.string n, .int .i64 a, .int .i64 b, .int .i64 c], .bool (hasF nm.data.toList fs)]) ∧ Below w.heap.size w w' := by
  by_cases h : fI nm.data.toList fs < fs.length
  · exact (find_yes v fs nm _ _ w hv hs rfl h rfl).mono fun e w' ⟨h1, h2⟩ => ⟨_, _, _, _, h1.trans (by unfold hasF; rw [decide_eq_true h]), h2⟩
  · exact (find_no v fs nm w hv hs h).mono fun e w' ⟨h1, h2⟩ => ⟨_, _, _, _, h1.trans (by unfold hasF; rw [decide_eq_false h]), h2⟩
theorem fld_val (l : List UInt8) (fs : List Fld) (nm S : ByteArray) (hS : S = ⟨(valueS l fs nm.data.toList).toArray⟩) : (⟨(nstW S.data.toList (hasF nm.data.toList fs)).toArray⟩ : ByteArray) = ⟨(fldW l fs nm.data.toList).toArray⟩ := by
  rw [hS]
  rfl
set_option maxRecDepth 100000 in
theorem hfield_any (ao fo : Option Addr) (cap fc : Nat) (l : List UInt8) (fs : List Fld) (nm : ByteArray) (w : World) (h : HdAt w l fs ao cap fo fc) (hbig : l.length ≤ 100000) (hs : shortF fs) (ht : tab w) :
    Calls Tryz.prog 57 #[headV ao l.length cap fo fs.length fc, .string nm] w fun e w' => e = .returned (.string ⟨(fldW l fs nm.data.toList).toArray⟩) ∧ Below w.heap.size w w' := by
  have HFn := Lib.hid (fun W (hb : Below w.heap.size w W) => find_c (.slice fo fs.length fc) fs nm W (h.2.below hb) hs)
  have HV := Lib.hid (fun W (hb : Below w.heap.size w W) => hvalue_any ao fo cap fc l fs nm W (h.below hb) hbig hs)
  have hvl := valueS_short l fs nm.data.toList
  obtain ⟨S, hS⟩ : ∃ S : ByteArray, S = ⟨(valueS l fs nm.data.toList).toArray⟩ := ⟨_, rfl⟩
  have hSz : S.size ≤ 100000 := by rw [hS, ← len_toList]; show (valueS l fs nm.data.toList).length ≤ _; omega
  have HE := Lib.hid (fld_val l fs nm S hS)
  obtain ⟨b, hb⟩ : ∃ b, b = hasF nm.data.toList fs := ⟨_, rfl⟩
  have HN := Lib.hid (fun W (h : tab W) => enst_any S b W (by omega) h)
  rw [← hS] at HV
  rw [← hb] at HFn HE
  obtain ⟨R, hR⟩ : ∃ R : ByteArray, R = ⟨(fldW l fs nm.data.toList).toArray⟩ := ⟨_, rfl⟩
  rw [← hR] at HE ⊢
  have HT := Lib.hid ht
  obtain ⟨X, hX⟩ : ∃ X, X = w.alloc (.cells #[.slice ao l.length cap, .slice fo fs.length fc] 65) := ⟨_, rfl⟩
  obtain ⟨b0, b1⟩ := box_two (W := w) (x := .slice ao l.length cap) (y := .slice fo fs.length fc) (t := 65)
  have HB : Hid (Below w.heap.size w X) := by rw [hX]; exact (Below.refl _ _).alloc (Nat.le_refl _) _
  rw [← hX] at b0 b1
  have hH : w.heap.size < X.heap.size := by rw [hX]; simp
  have HX := Lib.hid hX
  unfold headV at HV ⊢
  clear h hs hS hX ht hb hR hvl
  obtain ⟨H, hH0⟩ : ∃ H, H = w.heap.size := ⟨_, rfl⟩
  rw [← hH0] at b0 b1 hH
  have HH := Lib.hid hH0
  clear hH0
  go_enter Tryz.func57, Tryz.ntmps57
  go_wp2_with fail
  rw [← HX.out, ← HH.out]
  with_reducible refine (HFn.out _ HB.out).mono ?_
  rintro e w1 ⟨n0, n1, n2, n3, rfl, hb1⟩
  have HB1 := Lib.hid (HB.out.trans (hb1.mono HB.out.size))
  have y0 := (hb1.cell (p := ⟨H, 0, none⟩) hH).trans b0
  have y1 := (hb1.cell (p := ⟨H, 1, none⟩) hH).trans b1
  have hH1 : H < w1.heap.size := Nat.lt_of_lt_of_le hH hb1.size
  clear hb1 b0 b1 HX
  have z0 := (((Below.refl w1.heap.size w1).alloc (Nat.le_refl _) (.cells #[.string n0, .int .i64 n1, .int .i64 n2, .int .i64 n3] 100)).cell (p := ⟨H, 0, none⟩) hH1).trans y0
  have z1 := (((Below.refl w1.heap.size w1).alloc (Nat.le_refl _) (.cells #[.string n0, .int .i64 n1, .int .i64 n2, .int .i64 n3] 100)).cell (p := ⟨H, 1, none⟩) hH1).trans y1
  have HB2 : Hid (Below w.heap.size w (w1.alloc (.cells #[.string n0, .int .i64 n1, .int .i64 n2, .int .i64 n3] 100))) := HB1.out.alloc HB1.out.size _
  go_wp2_with fail
  with_reducible refine (HV.out _ HB2.out).mono ?_
  rintro e w2 ⟨rfl, hb2⟩
  have HB3 := Lib.hid (HB2.out.trans (hb2.mono HB2.out.size))
  clear hb2 z0 z1 y0 y1
  go_wp2_with fail
  with_reducible refine (HN.out _ (HT.out.below HB3.out)).mono ?_
  rintro e w3 ⟨rfl, hb3⟩
  have HB4 := Lib.hid (HB3.out.trans (hb3.mono HB3.out.size))
  clear hb3
  go_wp2_with fail
  go_ret
  exact ⟨ret_str HE.out, HB4.out⟩
end Go.Proofs.YtkmgflnmffdhjaaGreatDoor

/- Layer 20: contracts of package structure: what kind a part is of. -/
namespace Go.Proofs.YtkmgflnmffdhjaaGreatDoor
open Go Go.RowKit

theorem int_beq {a b : Nat} (h : a ≠ b) : ((a : Int) == (b : Int)) = false := by
  rw [beq_eq_false_iff_ne]
  omega
set_option maxRecDepth 100000 in
set_option maxHeartbeats 1000000 in
theorem fits_any (V : Val) (k : Nat) (ao : Option Addr) (n cap : Nat) (w : World) :
    Calls Tryz.prog 19 #[.agg #[.string ⟨V.type.toArray⟩, .string ⟨V.sub.toArray⟩, .slice ao n cap], .int .i64 (k : Int)] w fun e w' => e = .returned (.bool (fitK k V)) ∧ Below w.heap.size w w' := by
  obtain ⟨T, hT⟩ : ∃ T : ByteArray, T = ⟨V.type.toArray⟩ := ⟨_, rfl⟩
  obtain ⟨S, hS⟩ : ∃ S : ByteArray, S = ⟨V.sub.toArray⟩ := ⟨_, rfl⟩
  have hTl : T.toList = V.type := by rw [ByteArray.toList_eq, hT]
  have hSl : S.toList = V.sub := by rw [ByteArray.toList_eq, hS]
  have HD : Hid (fitK k V = if k = 1 then V.type == mulN else if k = 2 then V.type == msgN && V.sub == rfcN else !(V.type == mulN) && !(V.type == msgN && V.sub == rfcN)) := rfl
  rw [← hT, ← hS]
  have eT : (T.toList == [109, 117, 108, 116, 105, 112, 97, 114, 116]) = (V.type == mulN) := by rw [hTl]; rfl
  have eM : (T.toList == [109, 101, 115, 115, 97, 103, 101]) = (V.type == msgN) := by rw [hTl]; rfl
  have eS : (S.toList == [114, 102, 99, 56, 50, 50]) = (V.sub == rfcN) := by rw [hSl]; rfl
  rw [HD.out]
  generalize (V.type == mulN) = p at eT
  generalize (V.type == msgN) = q at eM
  generalize (V.sub == rfcN) = r at eS
  clear hT hS hTl hSl HD
  have hB : Hid (Below w.heap.size w (w.alloc (.cells #[.string T, .string S, .slice ao n cap] 60))) := (Below.refl _ _).alloc (Nat.le_refl _) _
  by_cases k1 : k = 1
  · subst k1
    cases p <;> cases q <;> cases r <;>
    · go_enter Tryz.func19, Tryz.ntmps19
      go_wp2_with fail
      go_ret
      exact ⟨rfl, hB.out⟩
  · by_cases k2 : k = 2
    · subst k2
      cases p <;> cases q <;> cases r <;>
      · go_enter Tryz.func19, Tryz.ntmps19
        go_wp2_with fail
        go_ret
        exact ⟨rfl, hB.out⟩
    · have e1 : ((k : Int) == 1) = false := int_beq k1
      have e2 : ((k : Int) == 2) = false := int_beq k2
      rw [if_neg k1, if_neg k2]
      clear k1 k2
      cases p <;> cases q <;> cases r <;>
      · go_enter Tryz.func19, Tryz.ntmps19
        go_wp2_with fail
        go_ret
        exact ⟨rfl, hB.out⟩
end Go.Proofs.YtkmgflnmffdhjaaGreatDoor

/- Layer 20 in plain words: how long it is, how a message is made, as it is told. No program. -/
namespace Go.Proofs.YtkmgflnmffdhjaaGreatDoor
open Go Go.RowKit

theorem wsW_app2 (a b : List (List UInt8)) : wsW (a ++ b) = wsW a + wsW b := by simp [wsW]
theorem wsW_nil2 : wsW [] = 0 := rfl
theorem rowW_len (ps : List (List UInt8)) : (rowW ps).length ≤ wsW ps + 2 := by
  have := join_len ps [32] (by simp)
  unfold rowW
  simp only [List.length_cons, List.length_append, List.length_nil]
  omega
theorem str_len (s : List UInt8) (N : Nat) (h : s.length ≤ N) (hN : N ≤ 1000000000) : (strW s).length ≤ 2 * N + 30 := by
  have := strW_size s (by omega)
  omega
theorem prmP_len : ∀ (ps : List Prm) (A B : Nat), A ≤ 1000000000 → B ≤ 1000000000 → (∀ q ∈ ps, q.1.length ≤ A ∧ q.2.length ≤ B) → wsW (prmP ps) ≤ ps.length * (2 * A + 2 * B + 62)
  | [], _, _, _, _, _ => by simp [prmP, wsW]
  | p :: r, A, B, hA, hB, h => by
    have ih := prmP_len r A B hA hB (fun q hq => h q (List.mem_cons_of_mem _ hq))
    obtain ⟨h1, h2⟩ := h p List.mem_cons_self
    have e : prmP (p :: r) = strW p.1 :: strW p.2 :: prmP r := rfl
    have g1 := str_len p.1 A h1 hA
    have g2 := str_len p.2 B h2 hB
    rw [e, wsW_cons, wsW_cons, List.length_cons, Nat.add_mul, Nat.one_mul]
    omega
theorem shortV.len {V : Val} (h : shortV V 1500) : (prsW V.params).length ≤ 424400000 := by
  unfold prsW
  split
  · decide
  · have h1 := prmP_len V.params 1500 564000 (by decide) (by decide) (fun q hq => ⟨h.nm q hq, Nat.le_trans (h.vl q hq) (by decide)⟩)
    have h2 := rowW_len (prmP V.params)
    have h3 : V.params.length * (2 * 1500 + 2 * 564000 + 62) ≤ 375 * (2 * 1500 + 2 * 564000 + 62) := Nat.mul_le_mul_right _ (by have := h.ct; omega)
    omega
theorem kind_len (l : List UInt8) (fs : List Fld) (k : Nat) (hl : l.length ≤ 1500) : (strW (kindS l fs k).1).length ≤ 3030 ∧ (strW (kindS l fs k).2.1).length ≤ 3030 ∧ (kindS l fs k).2.2.length ≤ 424400000 := by
  have hv := Nat.le_trans (valueS_short l fs ctyN) hl
  have b1 : nilW.length ≤ 424400000 := by decide
  have b2 : csW.length ≤ 424400000 := by
    have := rowW_len [strW chsN, strW usaN]
    have g1 := str_len chsN 20 (by decide) (by decide)
    have g2 := str_len usaN 20 (by decide) (by decide)
    rw [wsW_cons, wsW_cons, wsW_nil2] at this
    unfold csW
    omega
  have st : ∀ s : List UInt8, s.length ≤ 20 → (strW s).length ≤ 3030 := fun s hs => by
    have := str_len s 20 hs (by decide)
    omega
  unfold kindS
  cases h : parseL (valueS l fs ctyN) true with
  | none =>
    unfold kindK
    simp only
    split
    · exact ⟨st _ (by decide), st _ (by decide), b1⟩
    · split
      · exact ⟨st _ (by decide), st _ (by decide), b1⟩
      · exact ⟨st _ (by decide), st _ (by decide), b2⟩
  | some V =>
    have hV := val_small hv h
    unfold kindK
    simp only
    split
    · exact ⟨str_len _ 1500 hV.ty (by decide), str_len _ 1500 hV.sb (by decide), hV.len⟩
    · split
      · exact ⟨st _ (by decide), st _ (by decide), b1⟩
      · split
        · exact ⟨st _ (by decide), st _ (by decide), b1⟩
        · exact ⟨st _ (by decide), st _ (by decide), b1⟩
theorem fld_len (l : List UInt8) (fs : List Fld) (nm : List UInt8) (hl : l.length ≤ 1500) : (fldW l fs nm).length ≤ 3030 := by
  have hv := Nat.le_trans (valueS_short l fs nm) hl
  have := nstW_size (valueS l fs nm) (hasF nm fs) (by omega)
  unfold fldW
  omega
theorem rest_len (l : List UInt8) (fs : List Fld) (hl : l.length ≤ 1500) : wsW (restW l fs) ≤ 424420000 := by
  have hv := Nat.le_trans (valueS_short l fs nmDis) hl
  have h1 := fld_len l fs nmLang hl
  have h2 := fld_len l fs nmLoc hl
  have h3 : (disW l fs).length ≤ 424410000 := by
    unfold disW
    cases h : parseL (valueS l fs nmDis) false with
    | none => decide
    | some V =>
      have hV := val_small hv h
      have g1 := str_len _ 1500 hV.ty (by decide)
      have g2 := hV.len
      have g3 := rowW_len [strW V.type, prsW V.params]
      rw [wsW_cons, wsW_cons, wsW_nil2] at g3
      show (rowW [strW V.type, prsW V.params]).length ≤ _
      omega
  unfold restW
  rw [wsW_cons, wsW_cons, wsW_cons, wsW_nil2]
  omega
theorem enc_len (l : List UInt8) (fs : List Fld) (hl : l.length ≤ 1500) : (strW (encS20 l fs)).length ≤ 3030 := by
  have hv := Nat.le_trans (valueS_short l fs cteN) hl
  refine str_len _ 1500 ?_ (by decide)
  unfold encS20
  split
  · decide
  · have : (foldS (valueS l fs cteN)).length = (valueS l fs cteN).length := by simp [foldS]
    omega
theorem adrX_len2 (s : List UInt8) (hs : s.length ≤ 100000) : (listW (adrX s)).length ≤ 404 * s.length + 3 := by
  unfold adrX
  cases h : listA s with
  | none =>
    show nilW.length ≤ _
    simp [nilW]
  | some l =>
    have h1 := listA_wt h
    obtain ⟨_, i2⟩ := adrs_len l (by omega)
    simp only
    unfold listW
    split
    · simp [nilW]
    · simp only [List.length_cons, List.length_append, List.length_nil]
      omega
theorem env_len (l : List UInt8) (fs : List Fld) (hl : l.length ≤ 1500) : (putE (ofE l fs)).length ≤ 4000000 := by
  have hv : ∀ nm, (valueS l fs nm).length ≤ 1500 := fun nm => Nat.le_trans (valueS_short l fs nm) hl
  have ha : ∀ nm, (listW (adrX (valueS l fs nm))).length ≤ 606003 := fun nm => by
    have := adrX_len2 (valueS l fs nm) (by have := hv nm; omega)
    have := hv nm
    omega
  have ho : ∀ nm, (listW (orX (adrX (valueS l fs nm)) (adrX (valueS l fs nmFrom)))).length ≤ 606003 := fun nm => by
    unfold orX
    split
    · exact ha _
    · exact ha _
  have f : ∀ nm b, (nstW (valueS l fs nm) b).length ≤ 3030 := fun nm b => by
    have := nstW_size (valueS l fs nm) b (by have := hv nm; omega)
    have := hv nm
    omega
  have h := rowW_len (envP (ofE l fs))
  have q0 := f nmDate (hasF nmDate fs)
  have q1 := f nmSubject (hasF nmSubject fs)
  have q2 := f nmInReply (hasF nmInReply fs)
  have q3 := f nmId (hasF nmId fs)
  have p0 := ha nmFrom
  have p1 := ho nmSender
  have p2 := ho nmReplyTo
  have p3 := ha nmTo
  have p4 := ha nmCc
  have p5 := ha nmBcc
  unfold putE
  have e : wsW (envP (ofE l fs)) ≤ 3900000 := by
    unfold envP ofE
    simp only [wsW_cons, wsW_nil2]
    omega
  omega
theorem itoa_len20 (n : Nat) (h : n ≤ 1000000000) : (Lib.itoa (n : Int)).length ≤ 21 := Lib.itoa_length_le (n : Int) (by omega) (by omega)
mutual
/-- Bodies that end within so many bytes. -/
def bdsT : Tr → Prop
  | .mk _ _ bd ks _ _ => bd.2 ≤ 1500 ∧ bdsK ks
def bdsK : List Tr → Prop
  | [] => True
  | t :: r => t.bd.2 ≤ 1500 ∧ bdsT t ∧ bdsK r
end
mutual
theorem st_len (l : List UInt8) (all : Bool) (hl : l.length ≤ 1500) : ∀ t : Tr, t.bd.2 ≤ 1500 → bdsT t → (stT l all t).length ≤ countT t * 900000000
  | .mk k hd bd ks cu e => fun hb hks => by
    have hK := kind_len l (fsOf l hd.1 hd.2) k hl
    have hR := rest_len l (fsOf l hd.1 hd.2) hl
    have hM := fld_len l (fsOf l hd.1 hd.2) nmMd5 hl
    have hks' : bdsK ks := by unfold bdsT at hks; exact hks.2
    have hbd : bd.2 ≤ 1500 := hb
    have ec : countT (.mk k hd bd ks cu e) = 1 + countK ks := rfl
    rw [ec, Nat.add_mul, Nat.one_mul]
    unfold stT
    by_cases hk : k = 1
    · rw [if_pos hk]
      have h1 := stK_len l all hl ks hks'
      have h2 := join_len (strW (kindS l (fsOf l hd.1 hd.2) k).2.1 :: (if all = true then (kindS l (fsOf l hd.1 hd.2) k).2.2 :: restW l (fsOf l hd.1 hd.2) else [])) [32] (by simp)
      have h3 : wsW (if all = true then (kindS l (fsOf l hd.1 hd.2) k).2.2 :: restW l (fsOf l hd.1 hd.2) else []) ≤ 848820001 := by
        cases all with
        | false => rw [if_neg (by decide), wsW_nil2]; omega
        | true => rw [if_pos rfl, wsW_cons]; omega
      rw [wsW_cons] at h2
      simp only [List.length_cons, List.length_append, List.length_nil]
      omega
    · rw [if_neg hk]
      refine Nat.le_trans (rowW_len _) ?_
      have g1 := fld_len l (fsOf l hd.1 hd.2) nmCid hl
      have g2 := fld_len l (fsOf l hd.1 hd.2) nmCde hl
      have g3 := enc_len l (fsOf l hd.1 hd.2) hl
      have g4 := itoa_len20 (bd.2 - bd.1) (by omega)
      have g5 : wsW (if k = 2 then stH l all ks else []) ≤ 4000002 + countK ks * 900000000 := by
        split
        · exact stH_len l all hl ks hks'
        · rw [wsW_nil2]; omega
      have g6 : wsW (if (k = 2 ∧ ks ≠ []) ∨ (kindS l (fsOf l hd.1 hd.2) k).1 = txtN then [Lib.itoa ((linesZ l (bd.1 : Int) (bd.2 : Int)).length : Int)] else []) ≤ 22 := by
        split
        · have h7 := linesZ_len l (bd.1 : Int) (bd.2 : Int)
          have h8 := itoa_len20 (linesZ l (bd.1 : Int) (bd.2 : Int)).length (by omega)
          rw [wsW_cons, wsW_nil2]
          omega
        · rw [wsW_nil2]; omega
      have g7 : wsW (if all = true then fldW l (fsOf l hd.1 hd.2) nmMd5 :: restW l (fsOf l hd.1 hd.2) else []) ≤ 424424000 := by
        cases all with
        | false => rw [if_neg (by decide), wsW_nil2]; omega
        | true => rw [if_pos rfl, wsW_cons]; omega
      rw [wsW_app2, wsW_app2, wsW_app2]
      simp only [wsW_cons, wsW_nil2]
      omega
theorem stK_len (l : List UInt8) (all : Bool) (hl : l.length ≤ 1500) : ∀ ks : List Tr, bdsK ks → (stK l all ks).length ≤ countK ks * 900000000
  | [] => fun _ => by simp [stK]
  | t :: r => fun h => by
    unfold bdsK at h
    have h1 := st_len l all hl t h.1 h.2.1
    have h2 := stK_len l all hl r h.2.2
    have ec : countK (t :: r) = countT t + countK r := rfl
    unfold stK
    rw [ec, Nat.add_mul, List.length_append]
    omega
theorem stH_len (l : List UInt8) (all : Bool) (hl : l.length ≤ 1500) : ∀ ks : List Tr, bdsK ks → wsW (stH l all ks) ≤ 4000002 + countK ks * 900000000
  | [] => fun _ => by simp [stH, wsW]
  | t :: r => fun h => by
    unfold bdsK at h
    have h1 := st_len l all hl t h.1 h.2.1
    have h2 := env_len l (fsOf l t.hd.1 t.hd.2) hl
    have ec : countK (t :: r) = countT t + countK r := rfl
    unfold stH
    rw [ec, Nat.add_mul, wsW_cons, wsW_cons, wsW_nil2]
    omega
end
end Go.Proofs.YtkmgflnmffdhjaaGreatDoor

/- Layer 20: contracts of package structure: parameters as they are told. -/
namespace Go.Proofs.YtkmgflnmffdhjaaGreatDoor
open Go Go.RowKit

/-- The texts of parameters, so far. -/
def prmB (ps : List Prm) : List ByteArray := ps.flatMap fun p => [⟨(strW p.1).toArray⟩, ⟨(strW p.2).toArray⟩]
theorem prmB_map (ps : List Prm) : (prmB ps).map (·.data.toList) = prmP ps := by
  induction ps with
  | nil => rfl
  | cons p r ih =>
    have e1 : prmB (p :: r) = ⟨(strW p.1).toArray⟩ :: ⟨(strW p.2).toArray⟩ :: prmB r := rfl
    have e2 : prmP (p :: r) = strW p.1 :: strW p.2 :: prmP r := rfl
    rw [e1, e2, List.map_cons, List.map_cons, ih]
theorem prmB_len (ps : List Prm) : (prmB ps).length = 2 * ps.length := by
  induction ps with
  | nil => rfl
  | cons p r ih =>
    have e1 : prmB (p :: r) = ⟨(strW p.1).toArray⟩ :: ⟨(strW p.2).toArray⟩ :: prmB r := rfl
    rw [e1]
    simp only [List.length_cons]
    omega
theorem prmB_snoc (ps : List Prm) (i : Nat) (h : i < ps.length) : prmB (ps.take (i + 1)) = prmB (ps.take i) ++ [⟨(strW ps[i].1).toArray⟩, ⟨(strW ps[i].2).toArray⟩] := by
  unfold prmB
  rw [List.take_succ_eq_append_getElem h, List.flatMap_append, List.flatMap_cons, List.flatMap_nil, List.append_nil]
/-- How long parameters may be here. -/
def fewP (ps : List Prm) : Prop := ps.length ≤ 400 ∧ (∀ q ∈ ps, q.1.length ≤ 1000000 ∧ q.2.length ≤ 1000000) ∧ wsW (prmP ps) ≤ 3000000000
theorem shortV.few {V : Val} (h : shortV V 1500) : fewP V.params := by
  have hc := h.ct
  refine ⟨by omega, fun q hq => ⟨Nat.le_trans (h.nm q hq) (by decide), Nat.le_trans (h.vl q hq) (by decide)⟩, ?_⟩
  have h1 := prmP_len V.params 1500 564000 (by decide) (by decide) (fun q hq => ⟨h.nm q hq, Nat.le_trans (h.vl q hq) (by decide)⟩)
  have h3 : V.params.length * (2 * 1500 + 2 * 564000 + 62) ≤ 375 * (2 * 1500 + 2 * 564000 + 62) := Nat.mul_le_mul_right _ (by omega)
  omega
theorem ownsRow_slice0 {w : World} {base : Nat} {e : TypeId} {v : Value} {xs : List Value} (h : w.ownsRow base e 1 v xs.length xs) (hn : 0 < xs.length) : ∃ g c, v = .slice (some ⟨g, 0, none⟩) xs.length c ∧ xs.length ≤ c ∧ g < w.heap.size ∧ ∀ (j : Nat) x, xs[j]? = some x → w.cell? ⟨g, 0 + j, none⟩ = some x := by
  obtain ⟨g, cap, rfl, hc, _, _, hg⟩ := ownsRow_slice h hn
  refine ⟨g, cap, rfl, hc, hg, fun j x hx => ?_⟩
  obtain ⟨hj, rfl⟩ := List.getElem?_eq_some_iff.1 hx
  rw [Nat.zero_add]
  exact (rowAt_owned h).cell j hj
set_option maxRecDepth 100000 in
set_option maxHeartbeats 600000 in
theorem pairs_any (v : Value) (ps : List Prm) (w : World) (hv : prmAt w v ps) (hp : fewP ps) (ht : tab w) :
    Calls Tryz.prog 20 #[v] w fun e w' => e = .returned (.string ⟨(prsW ps).toArray⟩) ∧ Below w.heap.size w w' := by
  obtain ⟨i0, hi, hz0, hz1, hz2⟩ := info_parts Tryz.infoStrg
  obtain ⟨ao, cap, rfl, hc, hm, hr⟩ := hv
  unfold maxLen at hm
  obtain ⟨p1, p2, p3⟩ := hp
  by_cases hn : ps = []
  · subst hn
    go_enter Tryz.func20, Tryz.ntmps20
    go_wp2_with fail
    go_ret
    exact ⟨rfl, Below.refl _ _⟩
  · obtain ⟨g, rfl, hg, hcl⟩ := hr.resolve_left hn
    have hpos := List.length_pos_iff.2 hn
    have hz : ((ps.length : Int) == 0) = false := by rw [beq_eq_false_iff_ne]; omega
    have HG := Lib.hid hcl
    have HP := Lib.hid p2
    have HT := Lib.hid ht
    have HS := Lib.hid (fun s W (h1 : s.size ≤ 1000000) h2 => wstring_any s W (by omega) h2)
    obtain ⟨Wm, hmk, hown, hgrow⟩ := run_make_own (P := Tryz.prog) w w.heap.size 94 9 i0 (.string ⟨#[]⟩) 1 Tryz.underlying94 hi hz0 hz1 .i64 .i64 (2 * ps.length) (by rw [hz2]; omega) (by unfold maxLen; omega) (Nat.le_refl _)
    have HO0 := Lib.hid hown
    have HB0 : Hid (Below w.heap.size w Wm) := (Below.refl _ _).grown hgrow (Nat.le_refl _) (fun q hq => by cases hq)
    rw [show ((2 * ps.length : Nat) : Int) = 2 * (ps.length : Int) by omega] at hmk
    have HR : Hid (∀ (W : World) (B : Nat) u, W.ownsRow B 9 1 u (prmB ps).length ((prmB ps).map Value.string) → Calls Tryz.prog 39 #[u] W fun e w' => e = .returned (.string ⟨(prsW ps).toArray⟩) ∧ Below W.heap.size W w') := by
      intro W B u ho
      have hl : 0 < ((prmB ps).map Value.string).length := by rw [List.length_map, prmB_len]; omega
      obtain ⟨g, c, rfl, h1, h2, h3⟩ := ownsRow_slice0 (xs := (prmB ps).map Value.string) (by simpa using ho) hl
      rw [List.length_map] at h1 ⊢
      refine (row_any g c (prmB ps) W (fun j x hx => h3 j _ (by simp [hx])) h2 (by rw [prmB_len]; omega) h1 (by rw [prmB_map]; omega)).mono fun e w' ⟨h4, h5⟩ => ⟨?_, h5⟩
      rw [h4, prmB_map, prsW, if_neg hn]
    obtain ⟨R, hR⟩ : ∃ R : ByteArray, R = ⟨(prsW ps).toArray⟩ := ⟨_, rfl⟩
    rw [← hR] at HR ⊢
    clear hown hgrow hcl p2 p3 hr ht hR hn
    go_enter Tryz.func20, Tryz.ntmps20
    go_wp2_with fail
    go_loopg [3, 15] ps.length (fun q x3 xi wr => ∃ (i : Nat), i ≤ ps.length ∧ q = ps.length - i ∧ xi = .int .i64 (i : Int) ∧ Hid (Below w.heap.size w wr) ∧ Hid (wr.ownsRow w.heap.size 9 1 x3 (prmB (ps.take i)).length ((prmB (ps.take i)).map Value.string)))
    case atStart => exact ⟨0, Nat.zero_le _, by omega, rfl, HB0.out, HO0.out⟩
    case round =>
      obtain ⟨i, hi2, rfl, rfl, HB, HO⟩ := hrel
      by_cases hlt : i < ps.length
      · obtain ⟨c0, c1⟩ := HG.out i hlt
        obtain ⟨s0, s1⟩ := HP.out ps[i] (List.getElem_mem hlt)
        have HN := Lib.hid (prmB_snoc ps i hlt)
        have x0 := (HB.out.cell (p := ⟨g, i * 2, none⟩) hg).trans c0
        have x1 := (HB.out.cell (p := ⟨g, i * 2 + 1, none⟩) hg).trans c1
        obtain ⟨P0, hP0⟩ : ∃ P : ByteArray, P = ⟨ps[i].1.toArray⟩ := ⟨_, rfl⟩
        obtain ⟨P1, hP1⟩ : ∃ P : ByteArray, P = ⟨ps[i].2.toArray⟩ := ⟨_, rfl⟩
        rw [← hP0] at x0
        rw [← hP1] at x1
        obtain ⟨A0, hA0⟩ : ∃ A : ByteArray, A = ⟨(strW ps[i].1).toArray⟩ := ⟨_, rfl⟩
        obtain ⟨A1, hA1⟩ : ∃ A : ByteArray, A = ⟨(strW ps[i].2).toArray⟩ := ⟨_, rfl⟩
        have HS0 : Hid (∀ W, tab W → Calls Tryz.prog 38 #[.string P0] W fun e w' => e = .returned (.string A0) ∧ Below W.heap.size W w') := by
          rw [hP0, hA0]
          exact fun W h => HS.out ⟨ps[i].1.toArray⟩ W (by rw [← len_toList]; exact s0) h
        have HS1 : Hid (∀ W, tab W → Calls Tryz.prog 38 #[.string P1] W fun e w' => e = .returned (.string A1) ∧ Below W.heap.size W w') := by
          rw [hP1, hA1]
          exact fun W h => HS.out ⟨ps[i].2.toArray⟩ W (by rw [← len_toList]; exact s1) h
        rw [← hA0, ← hA1] at HN
        have hln : (prmB (ps.take i)).length = 2 * i := by rw [prmB_len, List.length_take]; omega
        rw [hln] at HO
        clear hP0 hP1 hA0 hA1 s0 s1 c0 c1 hln
        obtain ⟨L, hL⟩ : ∃ L, L = (prmB (ps.take i)).map Value.string := ⟨_, rfl⟩
        rw [← hL] at HO
        have HLe := Lib.hid hL
        clear hL
        go_upto_region 7 with fail
        obtain ⟨X, hX⟩ : ∃ X, X = wr.alloc (.cells #[.string P0, .string P1] 71) := ⟨_, rfl⟩
        obtain ⟨b0, b1⟩ := box_two (W := wr) (x := .string P0) (y := .string P1) (t := 71)
        have HBX : Hid (Below wr.heap.size wr X) := by rw [hX]; exact (Below.refl _ _).alloc (Nat.le_refl _) _
        have HX : Hid (Below w.heap.size w X) := HB.out.trans (HBX.out.mono HB.out.size)
        have HTz := Lib.hid (fun z : BW X => (HT.out.below HX.out).below z.h)
        rw [← hX] at b0 b1 ⊢
        have HOX := Lib.hid (ownsRow_below HO.out HBX.out)
        clear hX
        obtain ⟨H, hH⟩ : ∃ H, H = wr.heap.size := ⟨_, rfl⟩
        rw [← hH] at b0 b1 ⊢
        clear hH x0 x1
        have y0 := BW.cell b0
        have y1 := BW.cell b1
        refine wp_region_belowM 7 (by kernel_rfl) (by kernel_rfl) (by kernel_rfl) (by kernel_rfl) (fun _ _ _ _ h => h) rfl ?_
        apply Exists.intro
        refine ⟨fun w => ?_, ?_⟩
        · go_simp
          try rfl
        try simp only [Act.put]
        try simp only [List.setIfInBounds_toArray]
        try simp only [List.set_cons_succ]
        try simp only [List.set_cons_zero]
        simp only [List.take_succ_cons, List.take_zero, List.drop_succ_cons, List.drop_zero]
        repeat (go_big_quiet_step (first | (go_at_call 38; first | (with_reducible exact BW.calls (HS0.out _ (HTz.out _))) | (with_reducible exact BW.calls (HS1.out _ (HTz.out _))) | trace_state)))
        refine wpQuiet_nil ?_
        rintro W7 ⟨⟨_, hb7⟩, rfl⟩
        have HV7 : Hid (Below w.heap.size w W7) := HX.out.trans (hb7.mono HX.out.size)
        have HQ7 := Lib.hid (ownsRow_below HOX.out hb7)
        have hsz7 := HV7.out.size
        clear hb7 b0 b1 y0 y1
        go_wp2_with (at_builtin; refine wpList_append_own _ rfl _ _ 94 rfl w.heap.size 9 i0 (.string ⟨#[]⟩) 1 16 Tryz.underlying94 hi hz0 hz1 hz2 rfl (by decide) _ (2 * i) L rfl (HQ7.out.alloc _) ⟨W7.heap.size, 0, none⟩ 2 2 [.string A0, .string A1] rfl rfl (World.news_of_block (cs := #[.string A0, .string A1]) (heap_alloc_new W7 _)) (by simp [Value.oneCell']) (by unfold maxLen; omega) (by omega) (by simp; omega) ?_; intro u7 y7 hown7 hgrow7 _)
        have HW7 : Hid (Below w.heap.size w y7) := (HV7.out.alloc HV7.out.size _).grown hgrow7 (by simp; omega) (fun q hq => (HQ7.out.lt q hq).1)
        have HO7 := Lib.hid hown7
        clear hown7 hgrow7 HQ7 hsz7 HV7
        go_wp2_with fail
        go_roundg (ps.length - (i + 1))
        case measure => omega
        case rel =>
          refine ⟨i + 1, by omega, rfl, by go_num, HW7.out, ?_⟩
          unfold Hid
          rw [HN.out, List.map_append, ← HLe.out]
          have hl2 : (prmB (ps.take i) ++ [A0, A1]).length = 2 * i + 2 := by rw [List.length_append, prmB_len, List.length_take]; simp; omega
          rw [hl2]
          exact HO7.out
      · obtain rfl : i = ps.length := by omega
        go_wp2_with fail
        with_reducible refine (HR.out _ _ _ (by have := HO.out; rwa [List.take_length] at this)).mono ?_
        rintro e w1 ⟨rfl, hb1⟩
        go_wp2_with fail
        go_ret
        exact ⟨rfl, HB.out.trans (hb1.mono HB.out.size)⟩
end Go.Proofs.YtkmgflnmffdhjaaGreatDoor

/- Layer 20: contracts of package structure: a disposition; what all parts end with. -/
namespace Go.Proofs.YtkmgflnmffdhjaaGreatDoor
open Go Go.RowKit

theorem str_size {B : ByteArray} {s : List UInt8} (h : B = ⟨s.toArray⟩) : B.size = s.length := by rw [h, ← len_toList]
set_option maxRecDepth 100000 in
set_option maxHeartbeats 800000 in
theorem dis_any (ao fo : Option Addr) (cap fc : Nat) (l : List UInt8) (fs : List Fld) (w : World) (h : HdAt w l fs ao cap fo fc) (hbig : l.length ≤ 1500) (hs : shortF fs) (he : env w) :
    Calls Tryz.prog 89 #[headV ao l.length cap fo fs.length fc] w fun e w' => e = .returned (.string ⟨(disW l fs).toArray⟩) ∧ Below w.heap.size w w' := by
  have HV := Lib.hid (fun W (hb : Below w.heap.size w W) => hvalue_any ao fo cap fc l fs ⟨#[99, 111, 110, 116, 101, 110, 116, 45, 100, 105, 115, 112, 111, 115, 105, 116, 105, 111, 110]⟩ W (h.below hb) (by omega) hs)
  have hvl := valueS_short l fs nmDis
  have hcn : (⟨#[99, 111, 110, 116, 101, 110, 116, 45, 100, 105, 115, 112, 111, 115, 105, 116, 105, 111, 110]⟩ : ByteArray).data.toList = nmDis := rfl
  rw [hcn] at HV
  have HD : Hid (disW l fs = disK (parseL (valueS l fs nmDis) false)) := rfl
  rw [HD.out]
  obtain ⟨s, hsd⟩ : ∃ s, s = valueS l fs nmDis := ⟨_, rfl⟩
  rw [← hsd] at HV hvl ⊢
  have hsl : s.length ≤ 1500 := by omega
  have hsz : (⟨s.toArray⟩ : ByteArray).size ≤ 100000 := by rw [← len_toList]; show s.length ≤ _; omega
  have HE := Lib.hid he
  obtain ⟨X, hX⟩ : ∃ X, X = w.alloc (.cells #[.slice ao l.length cap, .slice fo fs.length fc] 65) := ⟨_, rfl⟩
  obtain ⟨b0, b1⟩ := box_two (W := w) (x := .slice ao l.length cap) (y := .slice fo fs.length fc) (t := 65)
  have HB : Hid (Below w.heap.size w X) := by rw [hX]; exact (Below.refl _ _).alloc (Nat.le_refl _) _
  rw [← hX] at b0 b1
  have HX := Lib.hid hX
  unfold headV at HV ⊢
  clear h hs hX he hcn HD hsd hvl
  cases hq : parseL s false with
  | none =>
    have HPs := Lib.hid (fun W (h2 : env W) => parse_none ⟨s.toArray⟩ false hq W hsz h2)
    clear hq
    go_enter Tryz.func89, Tryz.ntmps89
    go_wp2_with fail
    rw [← HX.out]
    with_reducible refine (HV.out _ HB.out).mono ?_
    rintro e w1 ⟨rfl, hb1⟩
    have HB1 := Lib.hid (HB.out.trans (hb1.mono HB.out.size))
    clear hb1
    go_wp2_with fail
    with_reducible refine (HPs.out _ (HE.out.below HB1.out)).mono ?_
    rintro e w2 ⟨a, n, c, rfl, _, hb2⟩
    have HB2 := Lib.hid (HB1.out.trans (hb2.mono HB1.out.size))
    clear hb2
    go_wp2_with fail
    go_ret
    exact ⟨rfl, HB2.out.alloc HB2.out.size _⟩
  | some V =>
    have HPs := Lib.hid (fun W (h2 : env W) => parse_some ⟨s.toArray⟩ false V hq W hsz h2)
    have hV := val_small hsl hq
    have hty := hV.ty
    have HS := Lib.hid (fun W h => wstring_any ⟨V.type.toArray⟩ W (by rw [← len_toList]; show V.type.length ≤ _; omega) h)
    obtain ⟨A0, hA⟩ : ∃ A : ByteArray, A = ⟨(strW V.type).toArray⟩ := ⟨_, rfl⟩
    have HSt : Hid (∀ W, tab W → Calls Tryz.prog 38 #[.string ⟨V.type.toArray⟩] W fun e w' => e = .returned (.string A0) ∧ Below W.heap.size W w') := by rw [hA]; exact HS.out
    have hP := hV.len
    have HPr := Lib.hid (fun u W h1 h2 => pairs_any u V.params W h1 hV.few h2)
    obtain ⟨P0, hP0⟩ : ∃ A : ByteArray, A = ⟨(prsW V.params).toArray⟩ := ⟨_, rfl⟩
    rw [← hP0] at HPr
    have lA := str_size hA
    have lP := str_size hP0
    have qA := str_len V.type 1500 hty (by decide)
    have HR := Lib.hid (fun W => row_two A0 P0 W (by omega))
    have HEq : Hid (rowW [A0.data.toList, P0.data.toList] = disK (some V)) := by unfold Hid disK; rw [hA, hP0]
    rw [HEq.out] at HR
    obtain ⟨T0, hT0⟩ : ∃ T : ByteArray, T = ⟨V.type.toArray⟩ := ⟨_, rfl⟩
    rw [← hT0] at HPs HSt
    obtain ⟨T1, hT1⟩ : ∃ T : ByteArray, T = ⟨V.sub.toArray⟩ := ⟨_, rfl⟩
    rw [← hT1] at HPs
    obtain ⟨R, hR⟩ : ∃ R : ByteArray, R = ⟨(disK (some V)).toArray⟩ := ⟨_, rfl⟩
    rw [← hR] at HR ⊢
    clear hq HS hV hty hP lA lP qA hA hP0 hR hT0 hT1 HEq
    go_enter Tryz.func89, Tryz.ntmps89
    go_wp2_with fail
    rw [← HX.out]
    with_reducible refine (HV.out _ HB.out).mono ?_
    rintro e w1 ⟨rfl, hb1⟩
    have HB1 := Lib.hid (HB.out.trans (hb1.mono HB.out.size))
    clear hb1 b0 b1
    go_wp2_with fail
    with_reducible refine (HPs.out _ (HE.out.below HB1.out)).mono ?_
    rintro e w2 ⟨a, n, c, rfl, hpr, hb2⟩
    have HB2 := Lib.hid (HB1.out.trans (hb2.mono HB1.out.size))
    clear hb2
    go_upto_region 4 with fail
    obtain ⟨Y, hY⟩ : ∃ Y, Y = w2.alloc (.cells #[.string T0, .string T1, .slice a n c] 60) := ⟨_, rfl⟩
    obtain ⟨v0, v1, v2⟩ : Y.cell? ⟨w2.heap.size, 0, none⟩ = some (.string T0) ∧ Y.cell? ⟨w2.heap.size, 1, none⟩ = some (.string T1) ∧ Y.cell? ⟨w2.heap.size, 2, none⟩ = some (.slice a n c) := by
      have hh := heap_alloc_new w2 (.cells #[.string T0, .string T1, .slice a n c] 60)
      rw [hY]
      simp only [World.cell?, hh]
      exact ⟨rfl, rfl, rfl⟩
    have HBY : Hid (Below w2.heap.size w2 Y) := by rw [hY]; exact (Below.refl _ _).alloc (Nat.le_refl _) _
    have HB3 := Lib.hid (HB2.out.trans (HBY.out.mono HB2.out.size))
    have HPa := Lib.hid (fun z : BW Y => (hpr.below HBY.out).below z.h)
    have HTa := Lib.hid (fun z : BW Y => ((HE.out.below HB3.out).1).below z.h)
    rw [← hY]
    clear hY hpr
    obtain ⟨H, hH⟩ : ∃ H, H = w2.heap.size := ⟨_, rfl⟩
    rw [← hH] at v0 v1 v2 ⊢
    clear hH
    have y0 := BW.cell v0
    have y2 := BW.cell v2
    refine wp_region_belowT 6 (by kernel_rfl) (by kernel_rfl) ?_
    simp only [List.take_succ_cons, List.take_zero, List.drop_succ_cons, List.drop_zero]
    repeat (go_big_quiet_step (first | (go_at_call 38; exact BW.calls (HSt.out _ (HTa.out _))) | (go_at_call 20; exact BW.calls (HPr.out _ _ (HPa.out _) (HTa.out _)))))
    refine wpQuiet_nil ?_
    rintro W1 ⟨⟨_, hb4⟩, rfl⟩
    have HB4 := Lib.hid (HB3.out.trans (hb4.mono HB3.out.size))
    clear hb4 v0 v1 v2 y0 y2
    go_wp2_with fail
    with_reducible refine (HR.out _).mono ?_
    rintro e w5 ⟨rfl, hb5⟩
    go_wp2_with fail
    go_ret
    exact ⟨rfl, HB4.out.trans (hb5.mono HB4.out.size)⟩
set_option maxRecDepth 100000 in
set_option maxHeartbeats 800000 in
theorem rest_any (ao fo : Option Addr) (cap fc : Nat) (l : List UInt8) (fs : List Fld) (w : World) (h : HdAt w l fs ao cap fo fc) (hbig : l.length ≤ 1500) (hs : shortF fs) (he : env w) :
    Calls Tryz.prog 56 #[headV ao l.length cap fo fs.length fc] w fun e w' => e = .returned (.string ⟨(spW (restW l fs)).toArray⟩) ∧ Below w.heap.size w w' := by
  obtain ⟨X, hX⟩ : ∃ X, X = w.alloc (.cells #[.slice ao l.length cap, .slice fo fs.length fc] 65) := ⟨_, rfl⟩
  obtain ⟨b0, b1⟩ := box_two (W := w) (x := .slice ao l.length cap) (y := .slice fo fs.length fc) (t := 65)
  have HB : Hid (Below w.heap.size w X) := by rw [hX]; exact (Below.refl _ _).alloc (Nat.le_refl _) _
  rw [← hX] at b0 b1
  have hx : ∀ z : BW X, Below w.heap.size w z.v := fun z => HB.out.trans (z.h.mono HB.out.size)
  have HD := Lib.hid (fun z : BW X => dis_any ao fo cap fc l fs z.v (h.below (hx z)) hbig hs (he.below (hx z)))
  have HF1 := Lib.hid (fun z : BW X => hfield_any ao fo cap fc l fs ⟨#[99, 111, 110, 116, 101, 110, 116, 45, 108, 97, 110, 103, 117, 97, 103, 101]⟩ z.v (h.below (hx z)) (by omega) hs (he.below (hx z)).1)
  have HF2 := Lib.hid (fun z : BW X => hfield_any ao fo cap fc l fs ⟨#[99, 111, 110, 116, 101, 110, 116, 45, 108, 111, 99, 97, 116, 105, 111, 110]⟩ z.v (h.below (hx z)) (by omega) hs (he.below (hx z)).1)
  obtain ⟨A0, hA0⟩ : ∃ A : ByteArray, A = ⟨(disW l fs).toArray⟩ := ⟨_, rfl⟩
  obtain ⟨A1, hA1⟩ : ∃ A : ByteArray, A = ⟨(fldW l fs (⟨#[99, 111, 110, 116, 101, 110, 116, 45, 108, 97, 110, 103, 117, 97, 103, 101]⟩ : ByteArray).data.toList).toArray⟩ := ⟨_, rfl⟩
  obtain ⟨A2, hA2⟩ : ∃ A : ByteArray, A = ⟨(fldW l fs (⟨#[99, 111, 110, 116, 101, 110, 116, 45, 108, 111, 99, 97, 116, 105, 111, 110]⟩ : ByteArray).data.toList).toArray⟩ := ⟨_, rfl⟩
  rw [← hA0] at HD
  rw [← hA1] at HF1
  rw [← hA2] at HF2
  have r1 := rest_len l fs hbig
  have r2 : restW l fs = [A0.data.toList, A1.data.toList, A2.data.toList] := by rw [hA0, hA1, hA2]; rfl
  rw [r2, wsW_cons, wsW_cons, wsW_cons, wsW_nil2, len_toList, len_toList, len_toList] at r1
  have HR := Lib.hid (fun W => spaced_three A0 A1 A2 W (by omega))
  rw [← r2] at HR
  obtain ⟨R, hR⟩ : ∃ R : ByteArray, R = ⟨(spW (restW l fs)).toArray⟩ := ⟨_, rfl⟩
  rw [← hR] at HR ⊢
  have HX := Lib.hid hX
  unfold headV at HD HF1 HF2 ⊢
  clear h hs hX he hx r1 r2 hA0 hA1 hA2 hR
  obtain ⟨H, hH⟩ : ∃ H, H = w.heap.size := ⟨_, rfl⟩
  rw [← hH] at b0 b1
  have HHw := Lib.hid hH
  clear hH
  have y0 := BW.cell b0
  have y1 := BW.cell b1
  go_enter Tryz.func56, Tryz.ntmps56
  go_upto_region 1 with fail
  rw [← HX.out, ← HHw.out]
  refine wp_region_belowT 6 (by kernel_rfl) (by kernel_rfl) ?_
  simp only [List.take_succ_cons, List.take_zero, List.drop_succ_cons, List.drop_zero]
  repeat (go_big_quiet_step (first | (go_at_call 89; exact BW.calls (HD.out _)) | (go_at_call 57; first | (with_reducible exact BW.calls (HF1.out _)) | (with_reducible exact BW.calls (HF2.out _)) | trace_state)))
  refine wpQuiet_nil ?_
  rintro W1 ⟨⟨_, hb1⟩, rfl⟩
  have HB1 := Lib.hid (HB.out.trans (hb1.mono HB.out.size))
  clear hb1 b0 b1 y0 y1
  go_wp2_with fail
  with_reducible refine (HR.out _).mono ?_
  rintro e w2 ⟨rfl, hb2⟩
  go_wp2_with fail
  go_ret
  exact ⟨rfl, HB1.out.trans (hb2.mono HB1.out.size)⟩
end Go.Proofs.YtkmgflnmffdhjaaGreatDoor

/- Spans of kids, and how many parts there are, in plain words. No program. -/
namespace Go.Proofs.YtkmgflnmffdhjaaGreatDoor
open Go Go.RowKit

/-- Delimiters that stand one behind the other, from a on, up to b. -/
def chainC : Nat → Nat → List Sp → Sp → Prop
  | a, b, [], e => a ≤ e.1 ∧ e.1 ≤ e.2 ∧ e.2 ≤ b
  | a, b, c :: r, e => a ≤ c.1 ∧ c.1 ≤ c.2 ∧ chainC c.2 b r e
theorem chainC_mono : ∀ {cs : List Sp} {a a' b : Nat} {e : Sp}, a' ≤ a → chainC a b cs e → chainC a' b cs e
  | [], _, _, _, _, h, hc => ⟨Nat.le_trans h hc.1, hc.2⟩
  | _ :: _, _, _, _, _, h, hc => ⟨Nat.le_trans h hc.1, hc.2⟩
theorem cutsS_chain (l m0 : List UInt8) (bt : Nat) : ∀ (ls : List Ln) (fr a : Nat), fr ≤ a → chainL a bt ls → chainC fr bt (cutsS l m0 bt fr ls).1 (cutsS l m0 bt fr ls).2
  | [], fr, a, h, hc => by
    have : a ≤ bt := hc
    exact ⟨Nat.le_trans h this, Nat.le_refl _, Nat.le_refl _⟩
  | x :: r, fr, a, h, hc => by
    obtain ⟨h1, h2, h3, h4⟩ := hc
    have hle := chainL_le h4
    rcases lkS_le m0 (textOf l x) with hk | hk | hk
    · rw [cutsS_other (by rw [hk]; decide) (by rw [hk]; decide)]
      exact chainC_mono (by omega) (cutsS_chain l m0 bt r x.t x.n h3 h4)
    · rw [cutsS_open hk]
      exact ⟨Nat.le_refl _, show fr ≤ x.n by omega, cutsS_chain l m0 bt r x.n x.n (Nat.le_refl _) h4⟩
    · rw [cutsS_close hk]
      exact ⟨Nat.le_refl _, show fr ≤ x.n by omega, show x.n ≤ bt from hle⟩
theorem chainC_le : ∀ {cs : List Sp} {a b : Nat} {e : Sp}, chainC a b cs e → a ≤ e.1 ∧ e.1 ≤ b
  | [], a, b, e, h => ⟨h.1, Nat.le_trans h.2.1 h.2.2⟩
  | c :: r, a, b, e, h => by
    obtain ⟨h1, h2, h3⟩ := h
    have := chainC_le h3
    omega
theorem kidsS_in : ∀ {cs : List Sp} {a b : Nat} {e : Sp}, chainC a b cs e → ∀ s ∈ kidsS cs e, a ≤ s.1 ∧ s.1 ≤ s.2 ∧ s.2 ≤ b
  | [], _, _, _, _ => fun s hs => by cases hs
  | [c], a, b, e, h => fun s hs => by
    obtain ⟨h1, h2, h3, h4, h5⟩ := h
    rcases List.mem_cons.1 hs with rfl | hs
    · exact ⟨by show a ≤ c.2; omega, h3, by show e.1 ≤ b; omega⟩
    · cases hs
  | c :: d :: r, a, b, e, h => fun s hs => by
    obtain ⟨h1, h2, h3⟩ := h
    have hd := h3
    obtain ⟨h4, h5, h6⟩ := hd
    have := chainC_le h6
    rcases List.mem_cons.1 hs with rfl | hs
    · exact ⟨by show a ≤ c.2; omega, h4, by show d.1 ≤ b; omega⟩
    · have := kidsS_in h3 s hs
      omega
theorem pdS_in (l : List UInt8) (fs : List Fld) {h t : Nat} (hht : h ≤ t) (htl : t ≤ l.length) (k : Val) : ∀ s ∈ (pdS l fs h t k).kids, s.1 ≤ s.2 ∧ s.2 ≤ t := by
  unfold pdS
  split
  · split
    · next b hb =>
      intro s hs
      have := kidsS_in (cutsS_chain l (45 :: 45 :: b) t (linesS l h t) h h (Nat.le_refl _) (chainL_lines l _ h t (Nat.le_refl _) hht htl)) s hs
      omega
    · exact fun s hs => by cases hs
  · split
    · intro s hs
      rcases List.mem_cons.1 hs with rfl | hs
      · exact ⟨hht, Nat.le_refl _⟩
      · cases hs
    · exact fun s hs => by cases hs
theorem cutsS_len (l m0 : List UInt8) (bt : Nat) : ∀ (ls : List Ln) (fr : Nat), (cutsS l m0 bt fr ls).1.length ≤ ls.length
  | [], _ => Nat.le_refl _
  | x :: r, fr => by
    rcases lkS_le m0 (textOf l x) with hk | hk | hk
    · rw [cutsS_other (by rw [hk]; decide) (by rw [hk]; decide)]
      exact Nat.le_succ_of_le (cutsS_len l m0 bt r x.t)
    · rw [cutsS_open hk]
      simp only [List.length_cons]
      exact Nat.succ_le_succ (cutsS_len l m0 bt r x.n)
    · rw [cutsS_close hk]
      exact Nat.zero_le _
/-- What a part's kind tells of its kids. -/
theorem pdS_kids (l : List UInt8) (fs : List Fld) (h t : Nat) (k : Val) : (pdS l fs h t k).kids = (if (pdS l fs h t k).kind = 2 then [(h, t)] else kidsS (pdS l fs h t k).cuts (pdS l fs h t k).e) := by
  unfold pdS
  split
  · split
    · rfl
    · rfl
  · split
    · rfl
    · rfl
theorem pdS_cuts (l : List UInt8) (fs : List Fld) {h t : Nat} (htl : t ≤ l.length) (k : Val) : (pdS l fs h t k).cuts.length ≤ l.length := by
  have h1 := linesS_len l h t
  unfold pdS
  split
  · split
    · have := cutsS_len l (45 :: 45 :: (by assumption)) t (linesS l h t) h
      exact Nat.le_trans this (by omega)
    · exact Nat.zero_le _
  · split
    · exact Nat.zero_le _
    · exact Nat.zero_le _
theorem kidsRun_le {F : Sp → Nat → Tr × Nat} (hF : ∀ s c, c ≤ 1000 → (F s c).2 ≤ 1000) : ∀ (ss : List Sp) (c : Nat), c ≤ 1000 → (kidsRun F ss c).2 ≤ 1000
  | [], _, h => h
  | s :: r, c, h => kidsRun_le hF r _ (hF s c h)
theorem entS_le (l : List UInt8) : ∀ (d : Nat) (s : Sp) (g : Bool) (c : Nat), c ≤ 1000 → (entS l d s g c).2 ≤ 1000
  | 0, _, _, _, h => h
  | d + 1, s, g, c, h => by
    unfold entS
    simp only
    split
    · exact h
    · next hn =>
      simp only [not_or] at hn
      exact kidsRun_le (fun s' c' h' => entS_le l d s' _ c' h') _ _ (by omega)
theorem entS_leaf {l : List UInt8} {d : Nat} {s : Sp} {g : Bool} {c : Nat} (h : (pdS l (fsOf l s.1 s.2) (hdOf l s.1 s.2) s.2 (typeS l (fsOf l s.1 s.2) g)).kids = [] ∨ 1000 < c + (pdS l (fsOf l s.1 s.2) (hdOf l s.1 s.2) s.2 (typeS l (fsOf l s.1 s.2) g)).kids.length) :
    entS l (d + 1) s g c = (leafT s.1 (hdOf l s.1 s.2) s.2, c) := by
  unfold entS
  simp only
  rw [if_pos h]
theorem entS_kids {l : List UInt8} {d : Nat} {s : Sp} {g : Bool} {c : Nat} {k : Val} {p : Pd} (hk : k = typeS l (fsOf l s.1 s.2) g) (hp : p = pdS l (fsOf l s.1 s.2) (hdOf l s.1 s.2) s.2 k) (h : ¬ (p.kids = [] ∨ 1000 < c + p.kids.length)) :
    entS l (d + 1) s g c = (.mk p.kind (s.1, hdOf l s.1 s.2) (hdOf l s.1 s.2, s.2) (kidsRun (fun s' c' => entS l d s' (digS k) c') p.kids (c + p.kids.length)).1 p.cuts p.e,
      (kidsRun (fun s' c' => entS l d s' (digS k) c') p.kids (c + p.kids.length)).2) := by
  subst hk hp
  rw [entS, if_neg h]
end Go.Proofs.YtkmgflnmffdhjaaGreatDoor
