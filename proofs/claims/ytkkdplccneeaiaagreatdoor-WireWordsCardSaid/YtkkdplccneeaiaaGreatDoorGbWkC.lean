/- Layer 18: the laws: WireWords. -/
import Derived.Test.YtkkdplccneeaiaaGreatDoorGbWkB
namespace Go.Proofs.YtkkdplccneeaiaaGreatDoor
open Go Go.RowKit

def lstsW (ls : List ByteArray) : List (List UInt8) := ls.map fun s => s.data.toList
theorem spW_len : ∀ (l : List (List UInt8)), 2 * l.length ≤ (spW l).length + 1
  | [] => by simp
  | [s] => by
    have := List.length_pos_iff.2 (astW_ne s)
    show 2 * 1 ≤ (astW s).length + 1
    omega
  | s :: t :: r => by
    have h1 := spW_len (t :: r)
    have h2 := List.length_pos_iff.2 (astW_ne s)
    have e : spW (s :: t :: r) = astW s ++ 32 :: spW (t :: r) := rfl
    rw [e]
    simp only [List.length_append, List.length_cons] at h1 ⊢
    omega
theorem toks_words_any (l : List (List UInt8)) (h : l ≠ []) (hl : ∀ s ∈ l, s.length ≤ 4294967295) (n : Nat) (hn : 2 * l.length + 2 ≤ n) : toksW n (40 :: (spW l ++ [41])) = some ((3, []) :: (spT l ++ [(4, [])])) := by
  obtain ⟨g, rfl⟩ : ∃ g, n = g + 2 * l.length + 2 := ⟨n - (2 * l.length + 2), by omega⟩
  exact toks_words l h hl g
theorem words_at (l : List (List UInt8)) (i : Nat) (h : i < l.length) : ∃ kd : Nat, (kd = 1 ∨ kd = 2) ∧ ((3, []) :: (spT l ++ [(4, [])]))[2 * i + 1]? = some (kd, l[i]) := by
  refine ⟨if isAst l[i] = true then 1 else 2, by split <;> simp, ?_⟩
  rw [List.getElem?_cons_succ, List.getElem?_append_left (by rw [spT_len l (fun e => by rw [e] at h; simp at h)]; omega)]
  exact spT_at l i h
theorem words_len (l : List (List UInt8)) (h : l ≠ []) : ((3, []) :: (spT l ++ [(4, [])]) : List (Nat × List UInt8)).length = 2 * l.length + 1 := by
  have h2 := List.length_pos_iff.2 h
  rw [List.length_cons, List.length_append, spT_len l h]
  simp
  omega
theorem words_last (l : List (List UInt8)) (h : l ≠ []) : ((3, []) :: (spT l ++ [(4, [])]) : List (Nat × List UInt8))[2 * l.length]? = some (4, []) := by
  have h2 := List.length_pos_iff.2 h
  rw [show 2 * l.length = (2 * l.length - 1) + 1 by omega, List.getElem?_cons_succ, List.getElem?_append_right (by rw [spT_len l h]; omega), spT_len l h, Nat.sub_self]
  rfl
theorem tokCells_get {ts : List (Nat × List UInt8)} {i kd : Nat} {t : List UInt8} (h : ts[i]? = some (kd, t)) : (tokCells ts)[i * 2]? = some (.int .i64 (kd : Int)) ∧ (tokCells ts)[i * 2 + 1]? = some (.string ⟨t.toArray⟩) := by
  obtain ⟨hi, e⟩ := List.getElem?_eq_some_iff.1 h
  have := tokCells_at ts i hi
  rw [e] at this
  exact this
theorem strsW_below {W W' : World} {v : Value} {ls : List ByteArray} (h : strsArg W v ls) (hb : Below W.heap.size W W') : strsArg W' v ls := by
  obtain ⟨ao, cap, e, h1, h2, h3, h4⟩ := h
  refine ⟨ao, cap, e, h1, h2, h3, h4.imp id ?_⟩
  rintro ⟨b, off, e, hlt, hc⟩
  exact ⟨b, off, e, Nat.lt_of_lt_of_le hlt hb.size, fun j hj => (hb.cell (p := ⟨b, off + j, none⟩) hlt).trans (hc j hj)⟩
set_option maxRecDepth 100000 in
set_option maxHeartbeats 8000000 in
theorem wireWords_any (v : Value) (ls : List ByteArray) (w : World) (hv : strsArg w v ls) (ht : tab w) :
    Calls Tryz.prog 5 #[v] w fun e w' => e = .returned (.bool true) ∧ Below w.heap.size w w' := by
  have HAw := Lib.hid (awake18_any w ht)
  have HT := Lib.hid ht
  obtain ⟨ao, cap, rfl, hc1, hc2, hcells⟩ := hv.at
  obtain ⟨n, hn⟩ : ∃ n, n = ls.length := ⟨_, rfl⟩
  have HN := Lib.hid hn
  rw [← hn] at hc1 ⊢
  clear ht hv
  by_cases h0 : n = 0
  · have b0 : ((n : Int) == 0) = true := by rw [h0]; rfl
    clear hn h0
    go_enter Tryz.func5, Tryz.ntmps5
    go_wp2_with fail
    with_reducible refine HAw.out.mono ?_
    rintro e w1 ⟨rfl, hb1⟩
    go_wp2_with fail
    go_ret
    exact ⟨rfl, hb1⟩
  · have b0 : ((n : Int) == 0) = false := beq_no (by omega)
    by_cases h10 : 10 < n
    · have b10 : (10 : Int) < (n : Int) := by omega
      clear hn
      go_enter Tryz.func5, Tryz.ntmps5
      go_wp2_with fail
      with_reducible refine HAw.out.mono ?_
      rintro e w1 ⟨rfl, hb1⟩
      go_wp2_with fail
      go_ret
      exact ⟨rfl, hb1⟩
    · have b10 : ¬ (10 : Int) < (n : Int) := by omega
      have b10' : decide ((10 : Int) < (n : Int)) = false := decide_eq_false b10
      have hn10 : n ≤ 10 := by omega
      have HCl : Hid (∀ W, Below w.heap.size w W → ∀ j, (h : j < n) → ∃ b off, ao = some ⟨b, off, none⟩ ∧ b < w.heap.size ∧ W.cell? ⟨b, off + j, none⟩ = some (.string (ls[j]'(by rw [← HN.out]; exact h)))) := fun W hW j h => by
        obtain ⟨b, off, e, hb, hc, _⟩ := hcells j (by rw [← HN.out]; exact h)
        exact ⟨b, off, e, hb, (hW.cell (p := ⟨b, off + j, none⟩) hb).trans hc⟩
      have HAst := Lib.hid (fun s W hs h => wastring_any s W hs h)
      clear hn hcells
      go_enter Tryz.func5, Tryz.ntmps5
      go_wp2_with fail
      with_reducible refine HAw.out.mono ?_
      rintro e w1 ⟨rfl, hb1⟩
      have HB1 := Lib.hid hb1
      clear hb1
      go_wp2_with fail
      go_loopg [4, 5] n (fun g x i wr => ∃ (k : Nat) (U : ByteArray), g = n - k ∧ k ≤ n ∧ i = .int .i64 (k : Int) ∧ x = .string U ∧ U.size ≤ k * 200 ∧ Hid (Below w.heap.size w wr) ∧ Hid (U.data.toList = spW (lstsW (ls.take k))) ∧ Hid (∀ j, (h : j < ls.length) → j < k → ls[j].size ≤ 60))
      case atStart => exact ⟨0, ⟨#[]⟩, by omega, by omega, rfl, rfl, by decide, HB1.out, rfl, fun j h hj => by omega⟩
      case round =>
        obtain ⟨k, U, rfl, hk, rfl, rfl, hU, HB, HU, H60⟩ := hrel
        by_cases hlt : k < n
        · have hd : (k : Int) < (n : Int) := by omega
          obtain ⟨b, off, rfl, hb, hc⟩ := HCl.out wr HB.out k hlt
          obtain ⟨X, hX⟩ : ∃ X, X = ls[k]'(by rw [← HN.out]; exact hlt) := ⟨_, rfl⟩
          rw [← hX] at hc
          have HX := Lib.hid hX
          clear hX
          by_cases h60 : 60 < X.size
          · have h60i : (60 : Int) < (X.size : Int) := by omega
            go_wp2_with fail
            try rw [Exit.noGoto_ret]
            go_ret
            exact ⟨rfl, HB.out⟩
          · have h60i : ¬ (60 : Int) < (X.size : Int) := by omega
            have hX60 : X.size ≤ 60 := by omega
            obtain ⟨A, hA⟩ : ∃ A : ByteArray, A = ⟨(astW X.data.toList).toArray⟩ := ⟨_, rfl⟩
            have hAl : A.data.toList = astW X.data.toList := by rw [hA]
            have hAz : A.size ≤ 150 := by
              have h1 := astW_len X.data.toList (by simp; omega)
              rw [← hAl, len_toList, len_toList] at h1
              omega
            have HA1 := Lib.hid (HAst.out X wr (by omega) (HT.out.below HB.out))
            rw [← hA] at HA1
            have HAl := Lib.hid hAl
            have HNx : Hid (∀ V : ByteArray, V.data.toList = U.data.toList ++ ((if k = 0 then [] else [32]) ++ astW X.data.toList) → V.data.toList = spW (lstsW (ls.take (k + 1)))) := by
              intro V hV
              have hk2 : k < ls.length := by rw [← HN.out]; exact hlt
              have e : lstsW (ls.take (k + 1)) = lstsW (ls.take k) ++ [X.data.toList] := by
                unfold lstsW
                rw [List.take_succ_eq_append_getElem hk2, List.map_append, HX.out]
                rfl
              have e0 : (lstsW (ls.take k) = []) ↔ k = 0 := by
                unfold lstsW
                rw [List.map_eq_nil_iff, List.take_eq_nil_iff]
                constructor
                · rintro (h | h)
                  · exact h
                  · rw [h] at hk2; simp at hk2
                · exact fun h => .inl h
              rw [hV, HU.out, e, spW_snoc]
              simp only [e0]
            have H60' : Hid (∀ j, (h : j < ls.length) → j < k + 1 → ls[j].size ≤ 60) := by
              intro j h hj
              by_cases e : j = k
              · subst e; rw [← HX.out]; exact hX60
              · exact H60.out j h (by omega)
            clear hA hAl
            by_cases hk0 : k = 0
            · subst hk0
              rw [Nat.add_zero] at hc
              go_wp2_with fail
              with_reducible refine HA1.out.mono ?_
              rintro e w2 ⟨rfl, hb2⟩
              have HB2 := Lib.hid (HB.out.trans (hb2.mono HB.out.size))
              clear hb2
              go_wp2_with fail
              go_roundg (n - (0 + 1))
              case measure => omega
              case rel => exact ⟨0 + 1, _, rfl, by omega, by go_num, rfl, by rw [ByteArray.size_append]; omega, HB2.out, HNx.out _ (by rw [cat_toList, HAl.out]; simp), H60'.out⟩
            · have hk1 : (0 : Int) < (k : Int) := by omega
              go_wp2_with fail
              with_reducible refine HA1.out.mono ?_
              rintro e w2 ⟨rfl, hb2⟩
              have HB2 := Lib.hid (HB.out.trans (hb2.mono HB.out.size))
              clear hb2
              go_wp2_with fail
              go_roundg (n - (k + 1))
              case measure => omega
              case rel => exact ⟨k + 1, _, rfl, by omega, by go_num, rfl, by rw [ByteArray.size_append, ByteArray.size_append]; show _ + 1 + _ ≤ _; omega, HB2.out, HNx.out _ (by rw [cat_toList, cat_toList, HAl.out, if_neg hk0, List.append_assoc]), H60'.out⟩
        · obtain rfl : k = n := by omega
          obtain ⟨L, hL⟩ : ∃ L, L = lstsW ls := ⟨_, rfl⟩
          have hLn : L.length = k := by rw [hL, HN.out]; simp [lstsW]
          have hL0 : L ≠ [] := fun e => by rw [e] at hLn; simp at hLn; omega
          have HLat : Hid (∀ j, (h : j < k) → ∃ h2 : j < L.length, L[j] = (ls[j]'(by rw [← HN.out]; exact h)).data.toList) := fun j h => ⟨by omega, by subst hL; simp [lstsW]⟩
          have hU2 : U.data.toList = spW L := by rw [HU.out, List.take_of_length_le (by rw [← HN.out]; exact Nat.le_refl _), hL]
          have HS60 : Hid (∀ s ∈ L, s.length ≤ 4294967295) := by
            intro s hs
            rw [hL] at hs
            obtain ⟨x, hx, rfl⟩ := List.mem_map.1 hs
            obtain ⟨j, hj, e⟩ := List.getElem_of_mem hx
            have := H60.out j hj (by rw [HN.out]; exact hj)
            rw [e] at this
            simp
            omega
          obtain ⟨V, hV⟩ : ∃ V : ByteArray, V = (⟨#[40]⟩ ++ U) ++ ⟨#[41]⟩ := ⟨_, rfl⟩
          have hVl : V.data.toList = 40 :: (spW L ++ [41]) := by rw [hV, cat_toList, cat_toList, hU2]; rfl
          have hVz : V.size = U.size + 2 := by rw [hV, ByteArray.size_append, ByteArray.size_append]; show 1 + U.size + 1 = _; omega
          have hlen := words_len L hL0
          have hlast := words_last L hL0
          have hat := words_at L
          rw [hLn] at hlen hlast
          have htk := toks_words_any L hL0 HS60.out (V.data.toList.length + 1) (by
            have := spW_len L
            rw [hVl]
            simp only [List.length_cons, List.length_append, List.length_nil]
            omega)
          rw [← hVl] at htk
          obtain ⟨ts, hts⟩ : ∃ ts, ts = ((3, []) :: (spT L ++ [(4, [])]) : List (Nat × List UInt8)) := ⟨_, rfl⟩
          rw [← hts] at htk hlen hlast hat
          have hfst : ts[0]? = some (3, []) := by rw [hts]; rfl
          have HHat : Hid (∀ j, (h : j < k) → ∃ kd : Nat, (kd = 1 ∨ kd = 2) ∧ ts[2 * j + 1]? = some (kd, (ls[j]'(by rw [← HN.out]; exact h)).data.toList)) := by
            intro j h
            obtain ⟨kd, h1, h2⟩ := hat j (by rw [hLn]; exact h)
            obtain ⟨_, e⟩ := HLat.out j h
            exact ⟨kd, h1, by rw [h2, e]⟩
          obtain ⟨w2, cp2, hr2, ha2, hb2⟩ := conv_bytesArg (P := Tryz.prog) wr 9 29 5 V (by unfold maxLen; omega) Tryz.underlying9 Tryz.underlying29 Tryz.underlying5
          have HC2 := Lib.hid (wtokens_any _ V.data.toList w2 ha2 (by simp; omega))
          rw [htk] at HC2
          unfold TksW at HC2
          try simp only at HC2
          have HB2 := Lib.hid (HB.out.trans (hb2.mono HB.out.size))
          have HVz := Lib.hid hVz
          have HLen := Lib.hid hlen
          have HLast := Lib.hid hlast
          have HFst := Lib.hid hfst
          rw [hVz] at hr2 HC2
          rw [hV] at hr2
          clear hL hLn hL0 hU2 hV hVl hVz htk hts hlen hlast hat hfst ha2 hb2
          go_wp2_with fail
          with_reducible refine HC2.out.mono ?_
          rintro e w3 ⟨hb3, u3, rfl, ho3⟩
          rw [HLen.out] at ho3
          obtain ⟨g3, cap3, rfl, hcp3, _, hgl3, hc3⟩ := row2_read ho3 (Nat.succ_pos _)
          have t0 : w3.cell? ⟨g3, 0, none⟩ = some (.int .i64 3) := (hc3 0 (by omega)).trans (tokCells_get HFst.out).1
          have tl : w3.cell? ⟨g3, 2 * k * 2, none⟩ = some (.int .i64 4) := (hc3 (2 * k * 2) (by omega)).trans (tokCells_get HLast.out).1
          have HC3 := Lib.hid hc3
          have HB3 := Lib.hid (HB2.out.trans (hb3.mono HB2.out.size))
          have hki : (k : Int) ≤ 10 := by omega
          clear hb3 ho3 hc3 HC2 hr2
          go_wp2_with fail
          go_loopg [8] k (fun g i wr => ∃ (q : Nat), g = k - q ∧ q ≤ k ∧ i = .int .i64 (q : Int) ∧ Hid (Below w3.heap.size w3 wr))
          case atStart => exact ⟨0, by omega, by omega, rfl, Below.refl _ _⟩
          case round =>
            obtain ⟨q, rfl, hq, rfl, HB4⟩ := hrel
            have HBw : Hid (Below w.heap.size w wr) := HB3.out.trans (HB4.out.mono HB3.out.size)
            by_cases hqk : q < k
            · have hd : (q : Int) < (k : Int) := by omega
              obtain ⟨b, off, rfl, hb, hc⟩ := HCl.out wr HBw.out q hqk
              obtain ⟨kd, hkd, hts⟩ := HHat.out q hqk
              obtain ⟨X, hX⟩ : ∃ X, X = ls[q]'(by rw [← HN.out]; exact hqk) := ⟨_, rfl⟩
              rw [← hX] at hc hts
              obtain ⟨e0, e1⟩ := tokCells_get hts
              rw [bytes_back] at e1
              have x1 : wr.cell? ⟨g3, (2 * q + 1) * 2 + 1, none⟩ = some (.string X) := (HB4.out.cell (p := ⟨g3, (2 * q + 1) * 2 + 1, none⟩) hgl3).trans ((HC3.out _ (by omega)).trans e1)
              have x0 : wr.cell? ⟨g3, (2 * q + 1) * 2, none⟩ = some (.int .i64 (kd : Int)) := (HB4.out.cell (p := ⟨g3, (2 * q + 1) * 2, none⟩) hgl3).trans ((HC3.out _ (by omega)).trans e0)
              have T1 := BW.cell x1
              have T0 := BW.cell x0
              have CX := BW.cell hc
              have xx1 : (X.toList != X.toList) = false := by simp
              have xx2 : (X.toList == X.toList) = true := by simp
              have hq2 : 2 * (q : Int) + 1 < 2 * (k : Int) + 1 := by omega
              clear hX hts e0 e1 x0 x1 hc
              rcases hkd with rfl | rfl
              · go_wp2_with fail
                refine wp_region_below (by kernel_rfl) (by kernel_rfl) ?_
                repeat (go_big_quiet_step (fail))
                refine wpQuiet_nil ?_
                rintro W1 ⟨⟨_, hb1⟩, rfl⟩
                have HB5 := Lib.hid (HB4.out.trans (hb1.mono HB4.out.size))
                clear hb1 T1 T0 CX
                go_wp2_with fail
                go_roundg (k - (q + 1))
                case measure => omega
                case rel => exact ⟨q + 1, rfl, by omega, by go_num, HB5.out⟩
              · go_wp2_with fail
                refine wp_region_below (by kernel_rfl) (by kernel_rfl) ?_
                repeat (go_big_quiet_step (fail))
                refine wpQuiet_nil ?_
                rintro W1 ⟨⟨_, hb1⟩, rfl⟩
                have HB5 := Lib.hid (HB4.out.trans (hb1.mono HB4.out.size))
                clear hb1 T1 T0 CX
                go_wp2_with fail
                go_roundg (k - (q + 1))
                case measure => omega
                case rel => exact ⟨q + 1, rfl, by omega, by go_num, HB5.out⟩
            · go_wp2_with fail
              go_ret
              exact ⟨rfl, HBw.out⟩
end Go.Proofs.YtkkdplccneeaiaaGreatDoor
