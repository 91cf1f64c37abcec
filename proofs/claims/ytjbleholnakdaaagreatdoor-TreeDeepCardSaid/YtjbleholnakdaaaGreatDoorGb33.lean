/- The example that every statement asks first: its tree. -/
import Derived.Test.YtjbleholnakdaaaGreatDoorGb32
import Derived.Lib.SlBytesConst
import Derived.Great.BuildSlice
namespace Go.Proofs.YtjbleholnakdaaaGreatDoor
open Go Go.RowKit

def exB : List UInt8 := [67, 111, 110, 116, 101, 110, 116, 45, 84, 121, 112, 101, 58, 32, 109, 117, 108, 116, 105, 112, 97, 114, 116, 47, 109, 105, 120, 101, 100, 59, 32, 98, 111, 117, 110, 100, 97, 114, 121, 61, 98, 13, 10, 13, 10, 112, 114, 101, 13, 10, 45, 45, 98, 13, 10, 13, 10, 111, 110, 101, 13, 10, 45, 45, 98, 13, 10, 67, 111, 110, 116, 101, 110, 116, 45, 84, 121, 112, 101, 58, 32, 109, 101, 115, 115, 97, 103, 101, 47, 114, 102, 99, 56, 50, 50, 13, 10, 13, 10, 83, 117, 98, 106, 101, 99, 116, 58, 32, 115, 13, 10, 13, 10, 116, 119, 111, 13, 10, 45, 45, 98, 45, 45, 13, 10, 112, 111, 115, 116]
def exK : Tr := .mk 2 (67, 99) (99, 116) [.mk 0 (99, 113) (113, 116) [] [] (0, 0)] [] (0, 0)
def exT : Tr := .mk 1 (0, 45) (45, 129) [.mk 0 (55, 57) (57, 60) [] [] (0, 0), exK] [(48, 55), (60, 67)] (116, 125)
set_option maxRecDepth 100000 in
theorem ex_tree : treeS exB = exT := by kernel_rfl
def exZ : List Int := [67, 111, 110, 116, 101, 110, 116, 45, 84, 121, 112, 101, 58, 32, 109, 117, 108, 116, 105, 112, 97, 114, 116, 47, 109, 105, 120, 101, 100, 59, 32, 98, 111, 117, 110, 100, 97, 114, 121, 61, 98, 13, 10, 13, 10, 112, 114, 101, 13, 10, 45, 45, 98, 13, 10, 13, 10, 111, 110, 101, 13, 10, 45, 45, 98, 13, 10, 67, 111, 110, 116, 101, 110, 116, 45, 84, 121, 112, 101, 58, 32, 109, 101, 115, 115, 97, 103, 101, 47, 114, 102, 99, 56, 50, 50, 13, 10, 13, 10, 83, 117, 98, 106, 101, 99, 116, 58, 32, 115, 13, 10, 13, 10, 116, 119, 111, 13, 10, 45, 45, 98, 45, 45, 13, 10, 112, 111, 115, 116]
def exC : Array Value := (exZ.map (Value.int .u8)).toArray
theorem exC_row : exC.toList = exB.map byteV := by kernel_rfl
theorem exC_size : exC.size = 129 := by kernel_rfl
set_option maxRecDepth 100000 in
theorem ex_row (w : World) (t : TypeId) (fr : Nat × Nat) : bytesArg (w.alloc (.cells exC t fr)) (.slice (some ⟨w.heap.size, 0, none⟩) 129 129) exB :=
  (sliceAt_new w t fr exC exB exC_row).arg (cap := 129) (by decide) (by unfold maxLen; decide)
theorem own_len {S : Nat → Prop} {W : World} {ty : TypeId} {size n cn cc : Nat} {ca : Option Addr} {xs : List Value} (h : ownS S W ty size (.slice ca cn cc) n xs) : cn = n := by
  rcases h.1.2 with ⟨e, h0⟩ | ⟨g, cap, cur, e, _⟩
  · obtain ⟨_, rfl, _⟩ := Value.slice.inj e; exact h0.symm
  · obtain ⟨_, rfl, _⟩ := Value.slice.inj e; rfl
theorem kids_len {S : Nat → Prop} {W : World} {t : Tr} {k1 k2 k3 k4 k5 k8 k9 : Value} {a : Option Addr} {n c : Nat} {cs : Value} (h : treeAt S W t (.agg #[k1, k2, k3, k4, k5, .slice a n c, cs, k8, k9])) : n = t.kids.length := by
  obtain ⟨ka, kn, kc, ca, cn, cc, us, he, _, ho, hk⟩ := treeAt_open h
  have h1 := (kids_at ho hk).1
  simp only [Value.agg.injEq, Array.mk.injEq, List.cons.injEq, Value.slice.injEq] at he
  rw [he.2.2.2.2.2.1.2.1]
  exact h1
set_option maxRecDepth 100000 in
set_option maxHeartbeats 4000000 in
theorem awake_any (w : World) (he : env w) : Calls Tryz.prog 7 #[] w fun e w' => e = .returned (.bool true) ∧ Below w.heap.size w w' := by
  have HE := Lib.hid he
  have HPa : Hid (∀ W v, bytesArg W v exB → env W → Calls Tryz.prog 8 #[v] W fun e w' => ∃ ka kn kc ca cn cc, e = .returned (.tuple #[.agg #[.int .i64 1, .int .i64 0, .int .i64 45, .int .i64 45, .int .i64 129, .slice ka kn kc, .slice ca cn cc, .int .i64 116, .int .i64 125], .int .i64 0]) ∧
      treeAt (fun k => W.heap.size ≤ k) w' exT (.agg #[.int .i64 1, .int .i64 0, .int .i64 45, .int .i64 45, .int .i64 129, .slice ka kn kc, .slice ca cn cc, .int .i64 116, .int .i64 125]) ∧ Below W.heap.size W w') := fun W v h hE => by
    have := treeParse_any v exB W h (by decide) hE
    unfold treePost at this
    rw [ex_tree] at this
    exact this
  have kc := fun (w : World) (C : Array Value) (n c : Nat) => Lib.run_convert_bytes_const (P := Tryz.prog) w 32 5 C n c Tryz.underlying32 Tryz.underlying5
  clear he
  go_enter Tryz.func7, Tryz.ntmps7
  go_upto_region 1 with fail
  apply wp_region_lit
  refine wpList_buildFlat rfl 32 5 129 _ rfl .u8 exZ Tryz.underlying32 (by kernel_rfl) (by kernel_rfl) (by kernel_rfl) (by decide) (by decide) (by kernel_rfl) ?_
  have hC : (exZ.map (Value.int .u8)).toArray = exC := rfl
  rw [hC]
  clear hC
  go_wp2_with fail
  with_reducible refine (HPa.out _ _ ?h1 ?h2).mono ?_
  case h1 => exact ex_row _ _ _
  case h2 => exact HE.out.below ((Below.refl _ _).alloc (Nat.le_refl _) _)
  rintro e w5 ⟨ka, kn, kc, ca, cn, cc, rfl, ht, hb5⟩
  have HB5 : Hid (Below w.heap.size w w5) := ((Below.refl _ _).alloc (Nat.le_refl _) _).trans (hb5.mono (by simp))
  have HRow := Lib.hid (bytesArg.below (ex_row w 5 (exC.size, exC.size + 1)) hb5)
  have HT := Lib.hid ht
  obtain ⟨ka', kn', kc', ca', cn', cc', us, he, hcu, ho, hk⟩ := treeAt_open ht
  simp only [Value.agg.injEq, Array.mk.injEq, List.cons.injEq, Value.slice.injEq] at he
  obtain ⟨_, _, _, _, _, ⟨rfl, rfl, rfl⟩, ⟨rfl, rfl, rfl⟩, _⟩ := he
  obtain rfl : cn = 2 := own_len hcu
  obtain ⟨hkn, hkc, hkm, hat⟩ := kids_at ho hk
  obtain rfl : kn = 2 := hkn
  obtain ⟨g, a, n, c, a2, n2, c2, rfl, hg, _, h9, _⟩ := hat 0 (by decide)
  obtain ⟨g', b, nb, cb, b2, nb2, cb2, he', _, _, k9, htk⟩ := hat 1 (by decide)
  have hgg : g' = g := by injection he' with e1; injection e1 with e2; exact e2.symm
  subst hgg
  obtain rfl : nb = 1 := kids_len htk
  have p3 : w5.cell? ⟨g', 3, none⟩ = some (.int .i64 57) := h9.2.2.2.1
  have p4 : w5.cell? ⟨g', 4, none⟩ = some (.int .i64 60) := h9.2.2.2.2.1
  have p9 : w5.cell? ⟨g', 9, none⟩ = some (.int .i64 2) := k9.1
  have p14 : w5.cell? ⟨g', 14, none⟩ = some (.slice b 1 cb) := k9.2.2.2.2.2.1
  clear h9 k9 hat htk he' hb5 hcu ho hk ht HPa
  unfold maxLen at hkm
  have hone : bytesArg w5 (.slice (some ⟨w.heap.size, 57, none⟩) 3 72) [111, 110, 101] := by
    obtain ⟨ao, cap, he, h1, h2, h3⟩ := HRow.out
    obtain ⟨rfl, _, rfl⟩ := Value.slice.inj he
    have h4 : sliceAt w5 (some ⟨w.heap.size, 0, none⟩) exB := h3
    have h5 := (h4.drop (k := 57)).take 3
    have h6 : (exB.drop 57).take 3 = [111, 110, 101] := rfl
    rw [h6, Nat.zero_add] at h5
    exact h5.arg (cap := 72) (by decide) (by unfold maxLen; decide)
  have hconv := fun W (hb : Below w5.heap.size w5 W) => bytesArg_string (bytesArg.below hone hb)
  have HCv := Lib.hid hconv
  clear hone hconv
  have HCn := Lib.hid (fun (W : World) (hb : Below w5.heap.size w5 W) => count_any _ exT (Nat.le_refl _) (fun k => (w.alloc (.cells exC 5 (exC.size, exC.size + 1))).heap.size ≤ k) W _ (treeAt.keep (fun q hS hq => ⟨hb.block q hq, hS⟩) _ _ HT.out) (by decide))
  have HDp := Lib.hid (fun (W : World) (hb : Below w5.heap.size w5 W) => deep_any _ exT (Nat.le_refl _) (fun k => (w.alloc (.cells exC 5 (exC.size, exC.size + 1))).heap.size ≤ k) W _ (treeAt.keep (fun q hS hq => ⟨hb.block q hq, hS⟩) _ _ HT.out) (by decide) (by decide))
  have hc4 : (countT exT : Int) = 4 := rfl
  have hd2 : (deepT exT : Int) = 2 := rfl
  rw [hc4] at HCn
  rw [hd2] at HDp
  clear hc4 hd2
  go_upto_region 6 with fail
  obtain ⟨X, hX⟩ : ∃ X, X = (w5.alloc (.cells #[.int .i64 1, .int .i64 0, .int .i64 45, .int .i64 45, .int .i64 129, .slice (some ⟨g', 0, none⟩) 2 kc, .slice ca 2 cc, .int .i64 (exT.e.1 : Int), .int .i64 (exT.e.2 : Int)] 28)).alloc (.cells #[.int .i64 57, .int .i64 60] 24) := ⟨_, rfl⟩
  have hBX : Below w5.heap.size w5 X := by rw [hX]; exact ((Below.refl _ _).alloc (Nat.le_refl _) _).alloc (by simp) _
  have o0 : X.heap[w5.heap.size]? = some (partO 1 0 45 45 129 (.slice (some ⟨g', 0, none⟩) 2 kc) (.slice ca 2 cc) exT.e.1 exT.e.2) := by rw [hX]; exact heap_alloc2_old _ _ _
  have o1 : X.heap[w5.heap.size + 1]? = some (.cells #[.int .i64 57, .int .i64 60] 24 (0, 0)) := by rw [hX]; exact heap_alloc2_new _ _ _
  have hz : X.heap.size = w5.heap.size + 2 := by rw [hX]; simp
  rw [← hX]
  have hone := HCv.out X hBX
  obtain ⟨x0, x1, x2, x3, x4, x5, x6, x7, x8⟩ := part_cells o0
  have y0 : X.cell? ⟨w5.heap.size + 1, 0, none⟩ = some (.int .i64 57) := by simp [World.cell?, o1]
  have y1 : X.cell? ⟨w5.heap.size + 1, 1, none⟩ = some (.int .i64 60) := by simp [World.cell?, o1]
  have hgX : X.heap[g']? = w5.heap[g']? := hBX.block g' hg
  have z9 : X.cell? ⟨g', 9, none⟩ = some (.int .i64 2) := (World.cell?_of_block (a := ⟨g', 9, none⟩) hgX).trans p9
  have O0 := Lib.hid o0
  have HBX := Lib.hid hBX
  have Hz := Lib.hid hz
  clear hX hz hgX p3 p4 p9 p14 o0 o1 hBX
  go_wp2_with fail
  refine (HCn.out X HBX.out).mono ?_
  rintro e w6 ⟨rfl, hb6⟩
  have O6 := Lib.hid ((hb6.block w5.heap.size (by have := Hz.out; omega)).trans O0.out)
  have HB6 := Lib.hid (HBX.out.trans (hb6.mono HBX.out.size))
  clear hb6 x0 x1 x2 x3 x4 x5 x6 x7 x8 y0 y1 z9
  obtain ⟨x0, x1, x2, x3, x4, x5, x6, x7, x8⟩ := part_cells O6.out
  go_wp2_with fail
  refine (HDp.out w6 HB6.out).mono ?_
  rintro e w7 ⟨rfl, hb7⟩
  have HB7 := Lib.hid (HB6.out.trans (hb7.mono HB6.out.size))
  clear hb7
  go_wp2_with fail
  go_ret
  exact ⟨rfl, HB5.out.trans (HB7.out.mono HB5.out.size)⟩
end Go.Proofs.YtjbleholnakdaaaGreatDoor

/- TreeLeaves in plain words: a message of one field without a type is one leaf. No program. -/
namespace Go.Proofs.YtjbleholnakdaaaGreatDoor
open Go Go.RowKit

/-- The first line of these bytes, if they go on by CR LF. -/
theorem firstS_crlf (p r s : List UInt8) (hr : ∀ c ∈ r, c ≠ 10 ∧ c ≠ 13) : firstS (p ++ (r ++ 13 :: 10 :: s)) p.length (p ++ (r ++ 13 :: 10 :: s)).length = ⟨p.length, p.length + r.length, p.length + r.length + 2⟩ := by
  unfold firstS
  rw [partS_behind]
  have e : r ++ 13 :: 10 :: s = (r ++ [13]) ++ 10 :: s := by simp
  have hf : feedI (r ++ 13 :: 10 :: s) = r.length + 1 := by
    rw [e, feedI_here (by
      intro c hc
      rcases List.mem_append.1 hc with h | h
      · exact (hr c h).1
      · rw [List.mem_singleton.1 h]; decide)]
    simp
  rw [hf, if_pos (by simp)]
  have hend : endA (p ++ (r ++ 13 :: 10 :: s)) p.length (p.length + (r.length + 1)) = p.length + r.length := by
    unfold endA
    rw [if_pos]
    · omega
    · refine ⟨by omega, ?_⟩
      rw [show p.length + (r.length + 1) - 1 = p.length + r.length by omega, List.getD_eq_getElem?_getD, List.getElem?_append_right (by omega), show p.length + r.length - p.length = r.length by omega,
        List.getElem?_append_right (by omega), Nat.sub_self]
      rfl
  rw [hend]
  congr 1
def sbjN : List UInt8 := [115, 117, 98, 106, 101, 99, 116]
def sbjH : List UInt8 := [115, 117, 98, 106, 101, 99, 116, 58, 32]
def prB (c : UInt8) : Bool := decide (32 < c.toNat ∧ c.toNat < 127)
theorem leaf_lines (h b : List UInt8) (hh : ∀ c ∈ h, c ≠ 10 ∧ c ≠ 13) (h0 : h ≠ []) : ∃ ls, linesS (h ++ 13 :: 10 :: 13 :: 10 :: b) 0 (h ++ 13 :: 10 :: 13 :: 10 :: b).length = ⟨0, h.length, h.length + 2⟩ :: ⟨h.length + 2, h.length + 2, h.length + 4⟩ :: ls := by
  have hl : 0 < h.length := by cases h with | nil => exact absurd rfl h0 | cons _ _ => simp
  rw [linesS_step _ (by simp; omega) (Nat.le_refl _)]
  have h1 := firstS_crlf [] h (13 :: 10 :: b) hh
  simp only [List.nil_append, List.length_nil, Nat.zero_add] at h1
  rw [h1]
  have e : h ++ 13 :: 10 :: 13 :: 10 :: b = (h ++ [13, 10]) ++ ([] ++ 13 :: 10 :: b) := by simp
  have el : (h ++ [13, 10]).length = h.length + 2 := by simp
  rw [linesS_step _ (by simp) (Nat.le_refl _)]
  have h2 := firstS_crlf (h ++ [13, 10]) [] b (fun c hc => by cases hc)
  rw [← e, el] at h2
  simp only [List.length_nil, Nat.add_zero] at h2
  simp only
  rw [h2]
  exact ⟨_, rfl⟩
theorem leaf_tree (hs b : List UInt8) (hh : hs.all prB = true) : treeS (sbjH ++ hs ++ 13 :: 10 :: 13 :: 10 :: b) = leafT 0 (9 + hs.length + 4) (9 + hs.length + 4 + b.length) := by
  obtain ⟨h, hd⟩ : ∃ h, h = sbjH ++ hs := ⟨_, rfl⟩
  have hlen : h.length = 9 + hs.length := by rw [hd]; simp [sbjH]; omega
  have hne : h ≠ [] := by intro e; rw [e] at hlen; simp at hlen; omega
  have hhp : ∀ c ∈ h, c ≠ 10 ∧ c ≠ 13 := by
    intro c hc
    rw [hd] at hc
    rcases List.mem_append.1 hc with hc | hc
    · have hk : ∀ c ∈ sbjH, c ≠ 10 ∧ c ≠ 13 := by decide
      exact hk c hc
    · have := List.all_eq_true.1 hh c hc
      unfold prB at this
      have := of_decide_eq_true this
      refine ⟨?_, ?_⟩ <;> (intro e; subst e; revert this; decide)
  obtain ⟨ls, hls⟩ := leaf_lines h b hhp hne
  rw [← hd]
  obtain ⟨l, hl⟩ : ∃ l, l = h ++ 13 :: 10 :: 13 :: 10 :: b := ⟨_, rfl⟩
  have hll : l.length = 9 + hs.length + 4 + b.length := by rw [hl]; simp; omega
  rw [← hl] at hls ⊢
  have hei : eI (linesS l 0 l.length) = 1 := by
    rw [hls]
    unfold eI
    rw [List.findIdx_cons]
    have h1 : ((0 : Nat) == h.length) = false := by rw [beq_eq_false_iff_ne]; omega
    simp only [h1, cond_false]
    rw [List.findIdx_cons]
    simp
  have hho : hdOf l 0 l.length = 9 + hs.length + 4 := by
    unfold hdOf behindN
    rw [dif_pos (by rw [hei, hls]; simp)]
    simp only [hei]
    simp only [hls]
    simp
    omega
  have hfs : fsOf l 0 l.length = [⟨sbjN, 0, 8, h.length + 2⟩] := by
    unfold fsOf
    rw [hei, hls]
    show (begunS l ⟨0, h.length, h.length + 2⟩).toList = _
    have ht : textOf l ⟨0, h.length, h.length + 2⟩ = h := by
      unfold textOf partS
      rw [hl]
      simp
    have hc : colI (textOf l ⟨0, h.length, h.length + 2⟩) = 7 := by
      rw [ht, hd]
      rfl
    have hn : nameS (textOf l ⟨0, h.length, h.length + 2⟩) = sbjN := by
      unfold nameS
      rw [hc, ht, hd]
      rfl
    unfold begunS
    rw [hn, hc, ht, if_pos ⟨by omega, by decide⟩]
    rfl
  have hty : typeS l (fsOf l 0 l.length) false = ⟨txtN, plnN, []⟩ := by
    have hv : valueS l (fsOf l 0 l.length) ctyN = [] := by
      unfold valueS
      rw [dif_neg]
      rw [hfs]
      have : fI ctyN [(⟨sbjN, 0, 8, h.length + 2⟩ : Fld)] = 1 := by
        unfold fI
        rw [List.findIdx_cons]
        have h1 : sameB sbjN ctyN = false := by decide
        simp [h1]
      rw [this]
      simp
    unfold typeS
    rw [hv]
    rfl
  have hpd : (pdS l (fsOf l 0 l.length) (hdOf l 0 l.length) l.length (typeS l (fsOf l 0 l.length) false)).kids = [] := by
    rw [hty]
    unfold pdS
    rw [if_neg (by decide), if_neg (by rintro ⟨h1, _⟩; revert h1; decide)]
    rfl
  have := entS_leaf (l := l) (d := 31) (s := (0, l.length)) (g := false) (c := 1) (.inl hpd)
  unfold treeS
  rw [this]
  simp only
  rw [hho, hll]
end Go.Proofs.YtjbleholnakdaaaGreatDoor

/- TreeDeep in plain words: the tree of a message within messages. No program. -/
namespace Go.Proofs.YtjbleholnakdaaaGreatDoor
open Go Go.RowKit

/-- The first line of these bytes, if they go on by a feed alone. -/
theorem firstS_lf (p r s : List UInt8) (hr : ∀ c ∈ r, c ≠ 10 ∧ c ≠ 13) : firstS (p ++ (r ++ 10 :: s)) p.length (p ++ (r ++ 10 :: s)).length = ⟨p.length, p.length + r.length, p.length + r.length + 1⟩ := by
  unfold firstS
  rw [partS_behind]
  have hf : feedI (r ++ 10 :: s) = r.length := feedI_here fun c hc => (hr c hc).1
  rw [hf, if_pos (by simp)]
  have hend : endA (p ++ (r ++ 10 :: s)) p.length (p.length + r.length) = p.length + r.length := by
    unfold endA
    rw [if_neg]
    rintro ⟨h1, h2⟩
    have hlt : r.length - 1 < r.length := by omega
    rw [show p.length + r.length - 1 = p.length + (r.length - 1) by omega, List.getD_eq_getElem?_getD, List.getElem?_append_right (by omega), Nat.add_sub_cancel_left, List.getElem?_append_left hlt, List.getElem?_eq_getElem hlt] at h2
    exact (hr _ (List.getElem_mem hlt)).2 h2
  rw [hend]
/-- The lines of a header of one line, an empty line behind it. -/
theorem head_lines (p h s : List UInt8) (hh : ∀ c ∈ h, c ≠ 10 ∧ c ≠ 13) : ∃ ls, linesS (p ++ (h ++ 10 :: 10 :: s)) p.length (p ++ (h ++ 10 :: 10 :: s)).length = ⟨p.length, p.length + h.length, p.length + h.length + 1⟩ :: ⟨p.length + h.length + 1, p.length + h.length + 1, p.length + h.length + 2⟩ :: ls := by
  rw [linesS_step _ (by simp; omega) (Nat.le_refl _), firstS_lf p h (10 :: s) hh]
  have e : p ++ (h ++ 10 :: 10 :: s) = (p ++ h ++ [10]) ++ ([] ++ 10 :: s) := by simp
  have el : (p ++ h ++ [10]).length = p.length + h.length + 1 := by simp; omega
  rw [linesS_step _ (by simp; omega) (Nat.le_refl _)]
  have h2 := firstS_lf (p ++ h ++ [10]) [] s (fun c hc => by cases hc)
  rw [← e, el] at h2
  simp only [List.length_nil, Nat.add_zero] at h2
  simp only
  rw [h2]
  exact ⟨_, rfl⟩
theorem head_text (p h s : List UInt8) : textOf (p ++ (h ++ 10 :: 10 :: s)) ⟨p.length, p.length + h.length, p.length + h.length + 1⟩ = h := partS_mid p h _
theorem head_ei {ls xs : List Ln} {a b c : Nat} (hab : a < b) (h : xs = ⟨a, b, c⟩ :: ⟨c, c, c + 1⟩ :: ls) : eI xs = 1 := by
  rw [h]
  unfold eI
  rw [List.findIdx_cons]
  have h1 : (a == b) = false := by rw [beq_eq_false_iff_ne]; omega
  simp only [h1, cond_false]
  rw [List.findIdx_cons]
  simp
theorem head_hd (p h s : List UInt8) (hh : ∀ c ∈ h, c ≠ 10 ∧ c ≠ 13) (h0 : 0 < h.length) : hdOf (p ++ (h ++ 10 :: 10 :: s)) p.length (p ++ (h ++ 10 :: 10 :: s)).length = p.length + h.length + 2 := by
  obtain ⟨ls, hls⟩ := head_lines p h s hh
  have hei := head_ei (by omega) hls
  unfold hdOf behindN
  rw [dif_pos (by rw [hei, hls]; simp)]
  simp only [hei]
  simp only [hls]
  simp
theorem head_fs (p h s : List UInt8) (hh : ∀ c ∈ h, c ≠ 10 ∧ c ≠ 13) (hc : colI h < h.length) (hn : namedB (nameS h) = true) :
    fsOf (p ++ (h ++ 10 :: 10 :: s)) p.length (p ++ (h ++ 10 :: 10 :: s)).length = [⟨nameS h, p.length, p.length + colI h + 1, p.length + h.length + 1⟩] := by
  obtain ⟨ls, hls⟩ := head_lines p h s hh
  have hei := head_ei (by omega) hls
  unfold fsOf
  rw [hei, hls]
  show (begunS _ _).toList = _
  unfold begunS
  rw [head_text, if_pos ⟨hc, hn⟩]
  rfl
def msH : List UInt8 := [67, 111, 110, 116, 101, 110, 116, 45, 84, 121, 112, 101, 58, 32, 109, 101, 115, 115, 97, 103, 101, 47, 114, 102, 99, 56, 50, 50]
def msV : List UInt8 := [32, 109, 101, 115, 115, 97, 103, 101, 47, 114, 102, 99, 56, 50, 50]
def xyH : List UInt8 := [120, 58, 32, 121]
theorem msH_ok : ∀ c ∈ msH, c ≠ 10 ∧ c ≠ 13 := by decide
theorem xyH_ok : ∀ c ∈ xyH, c ≠ 10 ∧ c ≠ 13 := by decide
theorem ms_fs (p s : List UInt8) : fsOf (p ++ (msH ++ 10 :: 10 :: s)) p.length (p ++ (msH ++ 10 :: 10 :: s)).length = [⟨nameS msH, p.length, p.length + 13, p.length + 29⟩] :=
  head_fs p msH s msH_ok (by decide) (by decide)
theorem xy_fs (p s : List UInt8) : fsOf (p ++ (xyH ++ 10 :: 10 :: s)) p.length (p ++ (xyH ++ 10 :: 10 :: s)).length = [⟨nameS xyH, p.length, p.length + 2, p.length + 5⟩] :=
  head_fs p xyH s xyH_ok (by decide) (by decide)
/-- A line that a part is, but for the feed that ends it. -/
theorem firstS_part {l r : List UInt8} {a b : Nat} (h : partS l a b = r ++ [10]) (hr : ∀ c ∈ r, c ≠ 10 ∧ c ≠ 13) (hb : b = a + r.length + 1) : firstS l a b = ⟨a, a + r.length, b⟩ := by
  subst hb
  unfold firstS
  have hf : feedI (partS l a (a + r.length + 1)) = r.length := by
    rw [h]
    exact feedI_here fun c hc => (hr c hc).1
  rw [hf, if_pos (by omega)]
  have hend : endA l a (a + r.length) = a + r.length := by
    unfold endA
    rw [if_neg]
    rintro ⟨h1, h2⟩
    have hlt : r.length - 1 < r.length := by omega
    have h3 := partS_at l (a := a) (b := a + r.length + 1) (j := r.length - 1) (by omega)
    rw [h, List.getD_eq_getElem?_getD, List.getElem?_append_left hlt, List.getElem?_eq_getElem hlt] at h3
    rw [show a + r.length - 1 = a + (r.length - 1) by omega, ← h3] at h2
    exact (hr _ (List.getElem_mem hlt)).2 h2
  rw [hend]
theorem bodyS_line {l r : List UInt8} {a b : Nat} (h : partS l a b = r ++ [10]) (hr : ∀ c ∈ r, c ≠ 10 ∧ c ≠ 13) (hb : b = a + r.length + 1) (hl : b ≤ l.length) : bodyS l (a : Int) (b : Int) = trimS r := by
  have hw : withinB (a : Int) (b : Int) l.length = true := by unfold withinB; simp; omega
  have h1 : linesS l a b = [⟨a, a + r.length, b⟩] := by
    rw [linesS_step l (by omega) hl, firstS_part h hr hb, linesS_nil l (Nat.lt_irrefl _)]
  unfold bodyS linesZ
  rw [if_pos hw]
  show trimS (textsL l (linesS l a b)) = _
  rw [h1]
  unfold textsL
  simp only [List.map_cons, List.map_nil, List.flatten_cons, List.flatten_nil, List.append_nil]
  congr 1
  show partS l a (a + r.length) = r
  have h2 : partS l a (a + r.length) = (partS l a b).take r.length := by
    unfold partS
    rw [List.take_take]
    congr 1
    omega
  rw [h2, h, List.take_left]
theorem ms_text (p s : List UInt8) : partS (p ++ (msH ++ 10 :: 10 :: s)) (p.length + 13) (p.length + 29) = msV ++ [10] := by
  have e : p ++ (msH ++ 10 :: 10 :: s) = (p ++ msH.take 13) ++ ((msV ++ [10]) ++ 10 :: s) := by
    have : msH = msH.take 13 ++ msV := by decide
    rw [List.append_assoc]
    congr 1
  have el : (p ++ msH.take 13).length = p.length + 13 := by rw [List.length_append]; rfl
  have h := partS_mid (p ++ msH.take 13) (msV ++ [10]) (10 :: s)
  rw [← e, el] at h
  exact h
theorem ms_body (p s : List UInt8) : bodyS (p ++ (msH ++ 10 :: 10 :: s)) ((p.length + 13 : Nat) : Int) ((p.length + 29 : Nat) : Int) = msgN ++ 47 :: rfcN := by
  rw [bodyS_line (ms_text p s) (by decide) (by rfl) (by simp [msH])]
  decide
theorem ms_type (p s : List UInt8) (t : List Fld) (g : Bool) (ht : t = [⟨nameS msH, p.length, p.length + 13, p.length + 29⟩]) : typeS (p ++ (msH ++ 10 :: 10 :: s)) t g = ⟨msgN, rfcN, []⟩ := by
  subst ht
  have hv : valueS (p ++ (msH ++ 10 :: 10 :: s)) [⟨nameS msH, p.length, p.length + 13, p.length + 29⟩] ctyN = msgN ++ 47 :: rfcN := by
    unfold valueS
    have hfi : fI ctyN [(⟨nameS msH, p.length, p.length + 13, p.length + 29⟩ : Fld)] = 0 := by
      unfold fI
      rw [List.findIdx_cons]
      have h1 : sameB (nameS msH) ctyN = true := by decide
      simp [h1]
    rw [dif_pos (by rw [hfi]; simp)]
    simp only [hfi]
    exact ms_body p s
  have hp : parseL (msgN ++ 47 :: rfcN) true = some ⟨msgN, rfcN, []⟩ := by kernel_rfl
  unfold typeS
  rw [hv, hp]
theorem one_none (l : List UInt8) (f : Fld) (nm : List UInt8) (h : sameB f.nm nm = false) : valueS l [f] nm = [] := by
  unfold valueS
  have hfi : fI nm [f] = 1 := by
    unfold fI
    rw [List.findIdx_cons]
    simp [h]
  rw [dif_neg (by rw [hfi]; simp)]
/-- So many headers of a message, and what stands behind them. -/
def nestL (t : List UInt8) : Nat → List UInt8
  | 0 => t
  | k + 1 => msH ++ 10 :: 10 :: nestL t k
/-- The tree of so many messages, the entity at p, so many levels above the last that may be. -/
def chT (L : Nat) : Nat → Nat → Nat → Tr
  | 0, _, p => leafT p (p + 6) L
  | _ + 1, 0, p => leafT p (p + 30) L
  | k + 1, d + 1, p => .mk 2 (p, p + 30) (p + 30, L) [chT L k d (p + 30)] [] (0, 0)
theorem ms_pd (p s : List UInt8) (fs : List Fld) (h t : Nat) (hf : fs = [⟨nameS msH, p.length, p.length + 13, p.length + 29⟩]) : pdS (p ++ (msH ++ 10 :: 10 :: s)) fs h t ⟨msgN, rfcN, []⟩ = ⟨2, [], (0, 0), [(h, t)]⟩ := by
  subst hf
  have hb : bareS (p ++ (msH ++ 10 :: 10 :: s)) [⟨nameS msH, p.length, p.length + 13, p.length + 29⟩] = true := by
    unfold bareS
    rw [one_none _ _ cteN (by show sameB (nameS msH) cteN = false; decide)]
    rfl
  unfold pdS
  rw [if_neg (by decide), if_pos ⟨rfl, rfl, hb⟩]
theorem xy_pd (p s : List UInt8) (h t : Nat) (g : Bool) (hg : g = false) : (pdS (p ++ (xyH ++ 10 :: 10 :: s)) [⟨nameS xyH, p.length, p.length + 2, p.length + 5⟩] h t (typeS (p ++ (xyH ++ 10 :: 10 :: s)) [⟨nameS xyH, p.length, p.length + 2, p.length + 5⟩] g)).kids = [] := by
  subst hg
  have hty : typeS (p ++ (xyH ++ 10 :: 10 :: s)) [⟨nameS xyH, p.length, p.length + 2, p.length + 5⟩] false = ⟨txtN, plnN, []⟩ := by
    unfold typeS
    rw [one_none _ _ ctyN (by show sameB (nameS xyH) ctyN = false; decide)]
    rfl
  rw [hty]
  unfold pdS
  rw [if_neg (by decide), if_neg (by rintro ⟨h1, _⟩; revert h1; decide)]
  rfl
theorem ms_ent (p s l : List UInt8) (d c : Nat) (hl : l = p ++ (msH ++ 10 :: 10 :: s)) (hc : c + 1 ≤ 1000) :
    entS l (d + 1) (p.length, l.length) false c = (.mk 2 (p.length, p.length + 30) (p.length + 30, l.length) [(entS l d (p.length + 30, l.length) false (c + 1)).1] [] (0, 0), (entS l d (p.length + 30, l.length) false (c + 1)).2) := by
  have hh : hdOf l p.length l.length = p.length + 30 := by rw [hl]; exact head_hd p msH s msH_ok (by decide)
  have hfs : fsOf l p.length l.length = [⟨nameS msH, p.length, p.length + 13, p.length + 29⟩] := by rw [hl]; exact ms_fs p s
  have hty : ∀ fs, fs = [(⟨nameS msH, p.length, p.length + 13, p.length + 29⟩ : Fld)] → typeS l fs false = ⟨msgN, rfcN, []⟩ := fun fs h => by rw [hl]; exact ms_type p s fs false h
  have hpd : ∀ fs h t, fs = [(⟨nameS msH, p.length, p.length + 13, p.length + 29⟩ : Fld)] → pdS l fs h t ⟨msgN, rfcN, []⟩ = ⟨2, [], (0, 0), [(h, t)]⟩ := fun fs h t e => by rw [hl]; exact ms_pd p s fs h t e
  clear hl
  have hk := (hty _ hfs).symm
  have hp := (hpd _ (hdOf l p.length l.length) l.length hfs).symm
  rw [hh] at hp
  have hn : ¬ ((⟨2, [], (0, 0), [(p.length + 30, l.length)]⟩ : Pd).kids = [] ∨ 1000 < c + (⟨2, [], (0, 0), [(p.length + 30, l.length)]⟩ : Pd).kids.length) := by
    rintro (h | h)
    · cases h
    · have h' : 1000 < c + 1 := h
      omega
  rw [entS_kids (s := (p.length, l.length)) hk (by simp only [hh]; exact hp) hn]
  simp only [hh]
  rfl
theorem nest_ent (e : List UInt8) : ∀ (k d c : Nat) (p l : List UInt8), c + k ≤ 1000 → l = p ++ nestL (xyH ++ 10 :: 10 :: e) k → (entS l d (p.length, l.length) false c).1 = chT l.length k d p.length
  | 0, d, c, p, l, hc, hl => by
    subst hl
    show (entS (p ++ (xyH ++ 10 :: 10 :: e)) d (p.length, (p ++ (xyH ++ 10 :: 10 :: e)).length) false c).1 = leafT p.length (p.length + 6) (p ++ (xyH ++ 10 :: 10 :: e)).length
    have hh : hdOf (p ++ (xyH ++ 10 :: 10 :: e)) p.length (p ++ (xyH ++ 10 :: 10 :: e)).length = p.length + 6 := head_hd p xyH e xyH_ok (by decide)
    cases d with
    | zero =>
      show leafT _ (hdOf _ _ _) _ = _
      rw [hh]
    | succ d =>
      rw [entS_leaf (.inl (by simp only; rw [xy_fs]; exact xy_pd p e _ _ false rfl))]
      simp only
      rw [hh]
  | k + 1, d, c, p, l, hc, hl => by
    have hl' : l = p ++ (msH ++ 10 :: 10 :: nestL (xyH ++ 10 :: 10 :: e) k) := hl
    have e1 : l = (p ++ msH ++ [10, 10]) ++ nestL (xyH ++ 10 :: 10 :: e) k := by rw [hl']; simp
    have e2 : (p ++ msH ++ [10, 10]).length = p.length + 30 := by simp [msH]
    cases d with
    | zero =>
      have hh : hdOf l p.length l.length = p.length + 30 := by rw [hl']; exact head_hd p msH _ msH_ok (by decide)
      show leafT _ (hdOf _ _ _) _ = leafT _ _ _
      rw [hh]
    | succ d =>
      have ih := fun c' h' => nest_ent e k d c' (p ++ msH ++ [10, 10]) l h' e1
      rw [e2] at ih
      rw [ms_ent p _ l d c hl' (by omega)]
      show Tr.mk 2 _ _ _ [] (0, 0) = Tr.mk 2 _ _ _ [] (0, 0)
      rw [ih (c + 1) (by omega)]
theorem nest_tree (e : List UInt8) (k : Nat) (hk : k ≤ 900) (l : List UInt8) (hl : l = nestL (xyH ++ 10 :: 10 :: e) k) : treeS l = chT l.length k 32 0 :=
  nest_ent e k 32 1 [] l (by omega) (by rw [hl]; rfl)
theorem nest_len (t : List UInt8) : ∀ k, (nestL t k).length = 30 * k + t.length
  | 0 => by simp [nestL]
  | k + 1 => by simp [nestL, nest_len t k, msH]; omega
end Go.Proofs.YtjbleholnakdaaaGreatDoor

/- TreeDeep: the text that it puts together, its contract. -/
namespace Go.Proofs.YtjbleholnakdaaaGreatDoor
open Go Go.RowKit

theorem nestL_app (t : List UInt8) : ∀ k, nestL t k = nestL [] k ++ t
  | 0 => rfl
  | k + 1 => by simp [nestL, nestL_app t k]
theorem nestL_snoc (t : List UInt8) : ∀ k, nestL t (k + 1) = nestL (msH ++ 10 :: 10 :: t) k
  | 0 => rfl
  | k + 1 => by
    show msH ++ 10 :: 10 :: nestL t (k + 1) = msH ++ 10 :: 10 :: nestL _ k
    rw [nestL_snoc t k]
set_option maxRecDepth 100000 in
theorem nested_any (k : Nat) (s : ByteArray) (w : World) (hk : k ≤ 1000) (hs : s.size ≤ 1000) :
    Calls Tryz.prog 9 #[.int .i64 (k : Int), .string s] w fun e w' => ∃ ao cap, e = .returned (.slice ao (nestL s.data.toList k).length cap) ∧ bytesArg w' (.slice ao (nestL s.data.toList k).length cap) (nestL s.data.toList k) ∧ Below w.heap.size w w' := by
  go_enter Tryz.func9, Tryz.ntmps9
  go_wp2_with fail
  go_loopg [5, 6] k (fun q fv iv wr => ∃ (i : Nat) (F : ByteArray), i ≤ k ∧ q = k - i ∧ fv = .string F ∧ iv = .int .i64 i ∧ F.size ≤ 30 * i ∧ Hid (F.data.toList = nestL [] i) ∧ w = wr)
  case atStart => exact ⟨0, ⟨#[]⟩, by omega, rfl, rfl, rfl, by decide, rfl, rfl⟩
  case round =>
    obtain ⟨i, F, hi, rfl, rfl, rfl, hF, HF, rfl⟩ := hrel
    by_cases hlt : i < k
    · go_wp2_with fail
      go_roundg (k - (i + 1))
      case measure => omega
      case rel =>
        refine ⟨i + 1, _, by omega, rfl, rfl, by go_num, ?_, ?_, rfl⟩
        · rw [ByteArray.size_append]
          show F.size + 30 ≤ _
          omega
        · show (F ++ _).data.toList = _
          rw [cat_toList, HF.out, nestL_snoc, nestL_app (msH ++ _)]
          rfl
    · obtain rfl : i = k := by omega
      obtain ⟨T, hT⟩ : ∃ T : ByteArray, T = F ++ s := ⟨_, rfl⟩
      have hTl : nestL s.data.toList i = T.data.toList := by rw [hT, cat_toList, HF.out, nestL_app]
      have hTs : T.size ≤ 31000 := by rw [hT, ByteArray.size_append]; omega
      have HTl := Lib.hid hTl
      have HTe : Hid (T.size = F.size + s.size) := by unfold Hid; rw [hT, ByteArray.size_append]
      obtain ⟨W1, cap1, hcv1, harg1, hbw1⟩ := conv_bytesArg (P := Tryz.prog) w 9 32 5 T (by unfold maxLen; omega) Tryz.underlying9 Tryz.underlying32 Tryz.underlying5
      have HA := Lib.hid harg1
      have HB := Lib.hid hbw1
      rw [hT] at hcv1
      clear hT hTl harg1 hbw1
      go_wp2_with fail
      go_ret
      rw [HTl.out, len_toList]
      refine ⟨_, _, ?_, HA.out, HB.out⟩
      rw [HTe.out]
      rfl
end Go.Proofs.YtjbleholnakdaaaGreatDoor
