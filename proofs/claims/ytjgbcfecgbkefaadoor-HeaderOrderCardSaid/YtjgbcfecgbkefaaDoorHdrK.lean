/- The laws of layer 6 (header): HeaderOrder. -/
import Derived.Test.YtjgbcfecgbkefaaDoorHdrJ
namespace Go.Proofs.YtjgbcfecgbkefaaDoor
open Go Go.RowKit

theorem bytesArg_len {w : World} {base n : Nat} {v : Value} {l : List UInt8} {e : TypeId} (h : w.ownsRow base e 1 v n (l.map byteV)) : ∃ ao cap, v = .slice ao l.length cap := by
  obtain ⟨ao, cap, e, _⟩ := bytesArg_owned h
  exact ⟨ao, cap, e⟩
theorem getD_at {l : List UInt8} {k : Nat} (h : k < l.length) : l.getD k 0 = l[k] := by
  rw [List.getD_eq_getElem?_getD, List.getElem?_eq_getElem h]
  rfl
theorem named_ne {l : List UInt8} (h : namedB l = true) : ¬ (⟨l.toArray⟩ : ByteArray).toList = [] := by
  intro e
  have := (toList_nil_iff _).1 e
  have h0 : l.length = 0 := this
  rw [namedB_nil h0] at h
  cases h
set_option maxRecDepth 100000 in
set_option maxHeartbeats 4000000 in
theorem headerOrder_any (v : Value) (l : List UInt8) (vn : Value) (ns : List ByteArray) (w : World) (hv : bytesArg w v l) (hn : strsArg w vn ns) :
    Calls Tryd.prog 3 #[v, vn] w fun e w' => e = .returned (.bool true) ∧ Below w.heap.size w w' := by
  have HV := Lib.hid hv
  have HN := Lib.hid hn
  obtain ⟨ao, cap, rfl, hc, hm, hs⟩ := hv
  obtain ⟨no, nc, rfl, hnc, hnm, _⟩ := hn.at
  have HSl : Hid (sliceAt w ao l) := hs
  clear hs hn
  unfold maxLen at hm hnm
  have hcases : 600 < l.length ∨ (l.length ≤ 600 ∧ 10 < ns.length) ∨ (l.length ≤ 600 ∧ ns.length ≤ 10) := by omega
  rcases hcases with hl | ⟨hl, hl2⟩ | ⟨hl, hl2⟩
  iterate 2
    · go_enter Tryd.func3, Tryd.ntmps3
      go_wp2_with fail
      refine (awake_any _).mono ?_
      rintro e w1 ⟨rfl, hb1⟩
      have HB1 := Lib.hid hb1; clear hb1
      go_wp2
      go_ret
      exact ⟨rfl, HB1.out⟩
  obtain ⟨hch, hbe⟩ := head_chain l
  have hnl : (linesS l 0 l.length).length ≤ l.length := by have := linesS_len l 0 l.length; omega
  have hfl := fieldsL_len l ((linesS l 0 l.length).take (eI (linesS l 0 l.length)))
  rw [List.length_take] at hfl
  have HOf := Lib.hid (fun W h => of_whole (.slice ao l.length cap) l W h (by omega))
  unfold OfPost at HOf
  have hF := fieldsL_chain l hbe hch
  obtain ⟨fs, hfs⟩ : ∃ fs, fs = fieldsL l ((linesS l 0 l.length).take (eI (linesS l 0 l.length))) := ⟨_, rfl⟩
  obtain ⟨N, hN⟩ : ∃ N, N = behindN (linesS l 0 l.length) l.length := ⟨_, rfl⟩
  rw [← hfs, ← hN] at HOf hF
  rw [← hN] at hbe
  rw [← hfs] at hfl
  have hfn : fs.length ≤ 600 := by omega
  have hall := chainF_all hF
  have HSh : Hid (shortF fs) := fun x hx => by have := (hall x hx).1.2.2.2.1; omega
  have HIn : Hid (inF l fs) := fun x hx => by
    obtain ⟨⟨h1, h2, h3, h4, h5⟩, h6⟩ := hall x hx
    exact ⟨by omega, by omega⟩
  have hpb : ∀ m bt, (piecesL l m bt fs).length ≤ 1048000 := by
    intro m bt
    have h1 := piecesL_bound l m bt fs HIn.out
    have h2 : fs.length * (l.length + 2) ≤ 600 * 602 := Nat.mul_le_mul hfn (by omega)
    omega
  have HPB := Lib.hid hpb
  have HF := Lib.hid hF
  have HPl := Lib.hid (piecesL_both l ns fs)
  clear hfs hN hch hfl hnl hF hall hpb
  have hd1 : decide ((600 : Int) < (l.length : Int)) = false := decide_eq_false (by omega)
  have hd2 : decide ((10 : Int) < (ns.length : Int)) = false := decide_eq_false (by omega)
  go_enter Tryd.func3, Tryd.ntmps3
  go_wp2_with fail
  refine (awake_any _).mono ?_
  rintro e w1 ⟨rfl, hb1⟩
  have HB1 := Lib.hid hb1; clear hb1
  go_wp2_with fail
  with_reducible refine (HOf.out _ ?h1).mono ?_
  case h1 => exact bytesArg.below HV.out HB1.out
  rintro e w2 ⟨u, rfl, hown, hb2⟩
  have HB2 := Lib.hid (HB1.out.trans (hb2.mono HB1.out.size))
  have HR : Hid (rowF w2 u fs) := rowF_owned hown
  obtain ⟨fo, fc, rfl, hfc, hfm, hcell⟩ := HR.out.at
  have HC := Lib.hid hcell
  unfold maxLen at hfm
  clear hown hb2 hcell HOf HB1
  go_wp2_with fail
  go_loopg [8, 9] fs.length (fun q av iv wr => ∃ (a i : Nat), i ≤ fs.length ∧ q = fs.length - i ∧ av = .int .i64 a ∧ iv = .int .i64 i ∧ a ≤ N ∧ Hid (chainF l a N (fs.drop i)) ∧ Hid (Below w2.heap.size w2 wr))
  case atStart => exact ⟨0, 0, Nat.zero_le _, by omega, rfl, rfl, Nat.zero_le _, HF.out, Below.refl _ _⟩
  case round =>
    obtain ⟨a, i, hi, rfl, rfl, rfl, haN, HCh, HB⟩ := hrel
    by_cases hlt : i < fs.length
    · obtain ⟨g, rfl, hg, c0, c1, c2, c3⟩ := HC.out i hlt
      have hch := HCh.out
      rw [List.drop_eq_getElem_cons hlt] at hch
      obtain ⟨x, hx⟩ : ∃ x, x = fs[i] := ⟨_, rfl⟩
      rw [← hx] at c0 c1 c2 c3 hch
      obtain ⟨h1, ⟨h2, h3, h4, h5, h6⟩, h7⟩ := hch
      have h8 := chainF_le h7
      have HCn := Lib.hid h7
      replace c0 := (HB.out.cell (p := ⟨g, i * 4, none⟩) hg).trans c0
      replace c1 := (HB.out.cell (p := ⟨g, i * 4 + 1, none⟩) hg).trans c1
      replace c2 := (HB.out.cell (p := ⟨g, i * 4 + 2, none⟩) hg).trans c2
      replace c3 := (HB.out.cell (p := ⟨g, i * 4 + 3, none⟩) hg).trans c3
      obtain ⟨b, off, rfl, hblt, hcb⟩ := sliceAt.cell HSl.out (x.b - 1) (by omega)
      rw [getD_at (by omega)] at h6
      rw [h6] at hcb
      replace hcb := (HB2.out.cell (p := ⟨b, off + (x.b - 1), none⟩) hblt).trans hcb
      replace hcb := (HB.out.cell (p := ⟨b, off + (x.b - 1), none⟩) (Nat.lt_of_lt_of_le hblt HB2.out.size)).trans hcb
      replace hcb : wr.cell? ⟨b, off + (x.b - 1), none⟩ = some (.int .u8 58) := hcb
      have hne := named_ne h4
      obtain ⟨A, hA⟩ : ∃ A : ByteArray, A = ⟨x.nm.toArray⟩ := ⟨_, rfl⟩
      obtain ⟨F, hF⟩ : ∃ F, F = x.f := ⟨_, rfl⟩
      obtain ⟨D, hD⟩ : ∃ D, D = x.b := ⟨_, rfl⟩
      obtain ⟨T, hT⟩ : ∃ T, T = x.t := ⟨_, rfl⟩
      have HBo := Lib.hid (fun W h => body_any (.slice (some ⟨b, off, none⟩) l.length cap) l A (F : Int) (D : Int) (T : Int) W h (by omega))
      have hbl := bodyS_len l (D : Int) (T : Int)
      have hbl2 : l.length * l.length ≤ 600 * 600 := Nat.mul_le_mul hl hl
      obtain ⟨S, hS⟩ : ∃ S : ByteArray, S = ⟨(bodyS l (D : Int) (T : Int)).toArray⟩ := ⟨_, rfl⟩
      have hSl : S.data.toList = bodyS l (D : Int) (T : Int) := by rw [hS]
      have hSs : S.size ≤ 360000 := by rw [← len_toList, hSl]; omega
      have HSp : Hid (∀ k, (h : k < S.size) → ¬ S[k] = 10) := by
        intro k hk
        have h10 := bodyS_plain l (D : Int) (T : Int) S[k] (by rw [← hSl]; exact List.mem_of_getElem? (bytes_get S k hk))
        exact h10
      rw [← hS] at HBo
      clear hbl hbl2 hS hSl
      rw [← hA] at c0 hne
      rw [← hF] at c1 h1 h2
      rw [← hD] at c2 h2 h3 hcb
      rw [← hT] at c3 h3 h8 HCn
      clear h4 h5 h6 hx hA hF hD hT h7
      have q1 : decide (F < a) = false := decide_eq_false (by omega)
      have q2 : decide (D ≤ F) = false := decide_eq_false (by omega)
      have q3 : decide (T < D) = false := decide_eq_false (by omega)
      have q4 : decide (N < T) = false := decide_eq_false (by omega)
      have q5 : (A.toList == []) = false := by simpa using hne
      have e1 : IntKind.i64.wrap ((D : Int) - 1) = (D : Int) - 1 := IntWalk.i64_in _ (by omega)
      have e2 : ((D : Int) - 1).toNat = D - 1 := by omega
      have e3 : 0 ≤ (D : Int) - 1 := by omega
      have e4 : 1 ≤ (D : Int) := by omega
      have e5 : (D : Int) - 1 < (l.length : Int) := by omega
      go_wp2_with fail
      go_quiet (fail)
      go_wp2_with fail
      with_reducible refine (HBo.out _ ?h2).mono ?_
      case h2 => exact bytesArg.below HV.out ((HB2.out.trans (HB.out.mono HB2.out.size)).trans ((below_drewN' _).mono (Nat.le_trans HB2.out.size HB.out.size)))
      rintro e w3 ⟨rfl, hb3⟩
      have HB3 : Hid (Below w2.heap.size w2 w3) := (HB.out.trans ((below_drewN' nq).mono HB.out.size)).trans (hb3.mono HB.out.size)
      have c3' : w3.cell? ⟨g, i * 4 + 3, none⟩ = some (.int .i64 (T : Int)) := (hb3.cell (p := ⟨g, i * 4 + 3, none⟩) (Nat.lt_of_lt_of_le hg HB.out.size)).trans c3
      clear hb3 c0 c1 c2 c3 hcb q1 q2 q3 q4 q5 e1 e2 e3 e4 e5 hne HB HBo
      go_wp2_with fail
      go_loopg [11] S.size (fun q kv wx => ∃ k : Nat, k ≤ S.size ∧ q = S.size - k ∧ kv = .int .i64 k ∧ w3 = wx)
      case atStart => exact ⟨0, Nat.zero_le _, by omega, rfl, rfl⟩
      case round =>
        obtain ⟨k, hk, rfl, rfl, rfl⟩ := hrel
        by_cases hkl : k < S.size
        · have h10 : ((S[k].toNat : Int) == 10) = false := beq_no fun e => HSp.out k hkl (toNat_eq (by show S[k].toNat = 10; omega))
          go_wp2_with fail
          go_roundg (S.size - (k + 1))
          case measure => omega
          case rel => exact ⟨k + 1, by omega, rfl, by go_num, rfl⟩
        · go_wp2_with fail
          go_roundg (fs.length - (i + 1))
          case measure => omega
          case rel => exact ⟨T, i + 1, by omega, rfl, rfl, by go_num, by omega, HCn, HB3⟩
    · obtain rfl : i = fs.length := by omega
      have HBw := Lib.hid (HB2.out.trans (HB.out.mono HB2.out.size))
      have HRr := Lib.hid (HR.out.below HB.out)
      have HVr := Lib.hid (bytesArg.below HV.out HBw.out)
      have HNr := Lib.hid (strsArg.below HN.out HBw.out)
      clear HCh HB HV HN HR HB2 HC
      have HS1 := Lib.hid (fun W h hf hn => some_any (.slice ao l.length cap) (.slice fo fs.length fc) (.slice no ns.length nc) l fs ns false W h hf hn HSh.out HIn.out (HPB.out ns false))
      have HS2 := Lib.hid (fun W h hf hn => some_any (.slice ao l.length cap) (.slice fo fs.length fc) (.slice no ns.length nc) l fs ns true W h hf hn HSh.out HIn.out (HPB.out ns true))
      have HS3 := Lib.hid (fun W h hf hn => some_any (.slice ao l.length cap) (.slice fo fs.length fc) (.slice none 0 0) l fs [] true W h hf hn HSh.out HIn.out (HPB.out [] true))
      have hp1 := HPB.out ns false
      have hp2 := HPB.out ns true
      have hl1 : (someS l fs ns false).length = (piecesL l ns false fs).length + 2 := by simp [someS]
      have hl2' : (someS l fs ns true).length = (piecesL l ns true fs).length + 2 := by simp [someS]
      have hl3 : (someS l fs [] true).length = (piecesL l [] true fs).length + 2 := by simp [someS]
      have hpl := HPl.out
      obtain ⟨n1, hn1⟩ : ∃ n1, n1 = (someS l fs ns false).length := ⟨_, rfl⟩
      obtain ⟨n2, hn2⟩ : ∃ n2, n2 = (someS l fs ns true).length := ⟨_, rfl⟩
      obtain ⟨n3, hn3⟩ : ∃ n3, n3 = (someS l fs [] true).length := ⟨_, rfl⟩
      have hsum : n1 + n2 = n3 + 2 := by omega
      have hsm1 : n1 ≤ 2000000 := by omega
      have hsm2 : n2 ≤ 2000000 := by omega
      have HSum := Lib.hid hsum
      have HN1 := Lib.hid hn1
      have HN2 := Lib.hid hn2
      have HN3 := Lib.hid hn3
      clear hp1 hp2 hl1 hl2' hl3 hpl hn1 hn2 hn3 hsum HPl HPB
      go_wp2_with fail
      with_reducible refine (HS1.out _ HVr.out HRr.out HNr.out).mono ?_
      rintro e w4 ⟨u4, rfl, hown4, hb4⟩
      obtain ⟨o4, k4, rfl⟩ := bytesArg_len hown4
      have HB4 := Lib.hid (HBw.out.trans (hb4.mono HBw.out.size))
      have HR4 := Lib.hid (HRr.out.below hb4)
      have HV4 := Lib.hid (bytesArg.below HVr.out hb4)
      have HN4 := Lib.hid (strsArg.below HNr.out hb4)
      clear hown4 hb4
      rw [← HN1.out]
      go_wp2_with fail
      with_reducible refine (HS2.out _ HV4.out HR4.out HN4.out).mono ?_
      rintro e w5 ⟨u5, rfl, hown5, hb5⟩
      obtain ⟨o5, k5, rfl⟩ := bytesArg_len hown5
      have HB5 := Lib.hid (HB4.out.trans (hb5.mono HB4.out.size))
      have HR5 := Lib.hid (HR4.out.below hb5)
      have HV5 := Lib.hid (bytesArg.below HV4.out hb5)
      clear hown5 hb5
      rw [← HN2.out]
      go_wp2_with fail
      with_reducible refine (HS3.out _ HV5.out HR5.out ?h6).mono ?_
      case h6 => exact ⟨none, 0, rfl, Nat.le_refl _, Nat.zero_le _, (fun _ h => by cases h), .inl rfl⟩
      rintro e w6 ⟨u6, rfl, hown6, hb6⟩
      obtain ⟨o6, k6, rfl⟩ := bytesArg_len hown6
      have HB6 := Lib.hid (HB5.out.trans (hb6.mono HB5.out.size))
      clear hown6 hb6
      rw [← HN3.out]
      have q1 : decide (a ≤ N) = true := decide_eq_true haN
      have q2 : decide (N ≤ l.length) = true := decide_eq_true hbe
      have q3 : ((n1 : Int) + (n2 : Int) == (n3 : Int) + 2) = true := beq_yes (by have := HSum.out; omega)
      have hsm3 : n3 ≤ 4000000 := by have := HSum.out; omega
      go_wp2_with fail
      go_ret
      exact ⟨ret_bool (by simp), HB6.out⟩
end Go.Proofs.YtjgbcfecgbkefaaDoor
