/- Layer 18: contracts of package wire: the text of a line. -/
import Derived.Test.YtkkdplccneeaiaaGreatDoorGbWfB
import Derived.Deep.RegionHeld
import Derived.Lib.SmallJoins
namespace Go.Proofs.YtkkdplccneeaiaaGreatDoor
open Go Go.RowKit

/-- What 'text' answers. -/
def TxW (t : List UInt8) (g c : Nat) (w : World) (e : Ending) (w' : World) : Prop :=
  ∃ o, e = .returned (.slice (some ⟨g, o, none⟩) t.length c) ∧ t.length ≤ c ∧ sliceAt w' (some ⟨g, o, none⟩) t ∧ Below w.heap.size w w'
theorem sliceAt_newW (w : World) (t : TypeId) (fr : Nat × Nat) (cs : Array Value) (B : Nat) (l : List UInt8) (hB : B = w.heap.size) (h : cs.toList = l.map byteV) : sliceAt (w.alloc (.cells cs t fr)) (some ⟨B, 0, none⟩) l := by
  subst hB
  exact sliceAt_new w t fr cs l h
set_option maxRecDepth 100000 in
set_option maxHeartbeats 4000000 in
theorem wtext_at (B : Nat) (g off cap n : Nat) (l : List UInt8) (L E S : Nat) (w : World) (hn : l.length = n) (hb : B4 w B 34 (.slice (some ⟨g, off, none⟩) n cap) (.int .i64 (L : Int)) (.int .i64 ((E : Int) + 1)) (.int .i64 (S : Int))) (hs : sliceAt w (some ⟨g, off, none⟩) l) (hLE : L ≤ E) (hEl : E < n) (hc : n ≤ cap) (hm : cap ≤ maxLen) (hsm : n ≤ 1000000000) (hne : ¬ E = L) :
    Calls Tryz.prog 42 #[.pointer (some ⟨B, 0, none⟩)] w (TxW (bareE ((l.drop L).take (E - L))) g (E - L) w) := by
  subst hn
  have hm2 := hm
  unfold maxLen at hm2
  obtain ⟨c0, c1, c2, c3⟩ := hb.c
  have HB := Lib.hid hb
  have h1 : (L : Int) ≤ (E : Int) := by omega
  have h2 : (E : Int) ≤ (cap : Int) := by omega
  have h3 : (E : Int) < (l.length : Int) := by omega
  obtain ⟨p, hp⟩ : ∃ p, p = (l.drop L).take (E - L) := ⟨_, rfl⟩
  have hpl : p.length = E - L := by rw [hp, List.length_take, List.length_drop]; omega
  have HSp : Hid (sliceAt w (some ⟨g, off + L, none⟩) p) := by unfold Hid; rw [hp]; exact hs.drop.take _
  rw [← hp]
  obtain ⟨hM, hT⟩ := bareE_suffix p
  rw [hpl] at hM
  have HT := Lib.hid hT
  obtain ⟨M, hMM⟩ : ∃ M, M = (bareE p).length := ⟨_, rfl⟩
  rw [← hMM] at hM
  have hME : M ≤ E - L := by rw [hM]; split <;> omega
  have HX := Lib.hid (fun A W a1 a2 => suffix_any g (off + L) (E - L) (E - L) A p W hpl (Nat.le_refl _) (by omega) a1 a2)
  rw [← hM] at HX
  have HM := Lib.hid hMM
  have kc := fun (w : World) (C : Array Value) (n c : Nat) => Lib.run_convert_bytes_const (P := Tryz.prog) w 29 5 C n c Tryz.underlying29 Tryz.underlying5
  have hfin : ∀ W, Below w.heap.size w W → TxW (bareE p) g (E - L) w (.returned (.slice (some ⟨g, off + L, none⟩) M (E - L))) W := by
    intro W hb
    refine ⟨off + L, by rw [HM.out], by rw [← HM.out]; exact hME, ?_, hb⟩
    have := (HSp.out.below hb).take M
    rw [HT.out, ← HM.out]
    exact this
  have HF := Lib.hid hfin
  clear hp hs hb hM hT hMM hfin
  go_enter Tryz.func42, Tryz.ntmps42
  go_wp2_with fail
  have kcd : (convert 29 29 (.slice (some ⟨w.heap.size, 0, none⟩) 1 1)).run Tryz.prog (w.alloc (.cells #[.int .u8 13] 5)).drew = .ok (.slice (some ⟨w.heap.size, 0, none⟩) 1 1) (w.alloc (.cells #[.int .u8 13] 5 (1, 2))).drew := kc w.drew #[.int .u8 13] 1 1
  have hA1 : Below w.heap.size w (w.alloc (.cells #[.int .u8 13] 5)).drew := ((Below.refl _ _).alloc (Nat.le_refl _) _).drew
  have hA2 : Below w.heap.size w (w.alloc (.cells #[.int .u8 13] 5 (1, 2))).drew := ((Below.refl _ _).alloc (Nat.le_refl _) _).drew
  obtain ⟨d0, d1, _, _⟩ := (HB.out.below hA1).c
  obtain ⟨e0, e1, _, _⟩ := (HB.out.below hA2).c
  have HX2 := Lib.hid (HX.out w.heap.size (w.alloc (.cells #[.int .u8 13] 5 (1, 2))).drew (HSp.out.below hA2) ((sliceAt_newW w 5 (1, 2) #[.int .u8 13] w.heap.size [13] rfl rfl).below (Below.refl _ _).drew))
  have HA2 := Lib.hid hA2
  clear kc hA1 hA2 HX
  go_region_held (fun W' : World => W'.cell? ⟨B, 0, none⟩ = some (.slice (some ⟨g, off, none⟩) l.length cap) ∧ W'.cell? ⟨B, 1, none⟩ = some (.int .i64 (L : Int))) (first | exact ⟨c0, c1⟩ | exact ⟨d0, d1⟩ | exact ⟨e0, e1⟩)
    ((go_at_call 60; with_reducible refine HX2.out.mono ?_; rintro e w1 ⟨rfl, rfl⟩))
  go_wp2_with fail
  go_ret
  exact HF.out _ HA2.out
set_option maxRecDepth 100000 in
set_option maxHeartbeats 4000000 in
theorem wtext_end (B : Nat) (g off cap n : Nat) (l : List UInt8) (L E S : Nat) (w : World) (hn : l.length = n) (hb : B4 w B 34 (.slice (some ⟨g, off, none⟩) n cap) (.int .i64 (L : Int)) (.int .i64 ((E : Int) + 1)) (.int .i64 (S : Int))) (_ : sliceAt w (some ⟨g, off, none⟩) l) (hLE : E = L) (hEl : E < n) (hc : n ≤ cap) (hm : cap ≤ maxLen) (hsm : n ≤ 1000000000) :
    Calls Tryz.prog 42 #[.pointer (some ⟨B, 0, none⟩)] w (TxW (bareE ((l.drop L).take (E - L))) g 0 w) := by
  subst hn hLE
  have hm2 := hm
  unfold maxLen at hm2
  obtain ⟨c0, c1, c2, c3⟩ := hb.c
  have HB := Lib.hid hb
  have h2 : (E : Int) ≤ (cap : Int) := by omega
  have h3 : (E : Int) < (l.length : Int) := by omega
  obtain ⟨p, hp⟩ : ∃ p, p = (l.drop E).take (E - E) := ⟨_, rfl⟩
  have hpl : p.length = 0 := by rw [hp, Nat.sub_self]; rfl
  have HSp : Hid (sliceAt w (some ⟨g, off, none⟩) p) := .inl (List.eq_nil_of_length_eq_zero hpl)
  rw [← hp]
  obtain ⟨hM, hT⟩ := bareE_suffix p
  rw [hpl] at hM
  have HT := Lib.hid hT
  obtain ⟨M, hMM⟩ : ∃ M, M = (bareE p).length := ⟨_, rfl⟩
  rw [← hMM] at hM
  have hME : M ≤ 0 := by rw [hM]; split <;> omega
  have HX := Lib.hid (fun A W a1 a2 => suffix_any g off 0 0 A p W hpl (Nat.le_refl _) (by omega) a1 a2)
  rw [← hM] at HX
  have HM := Lib.hid hMM
  have kc := fun (w : World) (C : Array Value) (n c : Nat) => Lib.run_convert_bytes_const (P := Tryz.prog) w 29 5 C n c Tryz.underlying29 Tryz.underlying5
  have hfin : ∀ W, Below w.heap.size w W → TxW (bareE p) g 0 w (.returned (.slice (some ⟨g, off, none⟩) M 0)) W := by
    intro W hb
    refine ⟨off, by rw [HM.out], by rw [← HM.out]; exact hME, ?_, hb⟩
    have := (HSp.out.below hb).take M
    rw [HT.out, ← HM.out]
    exact this
  have HF := Lib.hid hfin
  clear hp hb hM hT hMM hfin
  go_enter Tryz.func42, Tryz.ntmps42
  go_wp2_with fail
  have kcd : (convert 29 29 (.slice (some ⟨w.heap.size, 0, none⟩) 1 1)).run Tryz.prog (w.alloc (.cells #[.int .u8 13] 5)).drew = .ok (.slice (some ⟨w.heap.size, 0, none⟩) 1 1) (w.alloc (.cells #[.int .u8 13] 5 (1, 2))).drew := kc w.drew #[.int .u8 13] 1 1
  have hA1 : Below w.heap.size w (w.alloc (.cells #[.int .u8 13] 5)).drew := ((Below.refl _ _).alloc (Nat.le_refl _) _).drew
  have hA2 : Below w.heap.size w (w.alloc (.cells #[.int .u8 13] 5 (1, 2))).drew := ((Below.refl _ _).alloc (Nat.le_refl _) _).drew
  obtain ⟨d0, d1, _, _⟩ := (HB.out.below hA1).c
  obtain ⟨e0, e1, _, _⟩ := (HB.out.below hA2).c
  have HX2 := Lib.hid (HX.out w.heap.size (w.alloc (.cells #[.int .u8 13] 5 (1, 2))).drew (HSp.out.below hA2) ((sliceAt_newW w 5 (1, 2) #[.int .u8 13] w.heap.size [13] rfl rfl).below (Below.refl _ _).drew))
  have HA2 := Lib.hid hA2
  clear kc hA1 hA2 HX
  go_region_held (fun W' : World => W'.cell? ⟨B, 0, none⟩ = some (.slice (some ⟨g, off, none⟩) l.length cap) ∧ W'.cell? ⟨B, 1, none⟩ = some (.int .i64 (E : Int))) (first | exact ⟨c0, c1⟩ | exact ⟨d0, d1⟩ | exact ⟨e0, e1⟩)
    ((go_at_call 60; with_reducible refine HX2.out.mono ?_; rintro e w1 ⟨rfl, rfl⟩))
  go_wp2_with fail
  go_ret
  exact HF.out _ HA2.out
/-- The text of the line that ends at the place. -/
theorem wtext_any (B base : Nat) (v : Value) (s : Fr) (w : World) (h : FrAt w base B v s) (hp : s.pos < s.l.length) (w1 : World)
    (hb : B4 w1 B 34 v (.int .i64 (s.line : Int)) (.int .i64 ((s.pos : Int) + 1)) (.int .i64 ((s.size : Int) + 1))) (hq : ∀ q, v.ownBlock = some q → w1.heap[q]? = w.heap[q]?) :
    Calls Tryz.prog 42 #[.pointer (some ⟨B, 0, none⟩)] w1 fun e w' => ∃ g c, base ≤ g ∧ v.ownBlock = some g ∧ c ≤ s.l.length ∧ TxW (lineT s) g c w1 e w' := by
  have h0 : s.l ≠ [] := fun e => by rw [e] at hp; simp at hp
  obtain ⟨g, off, cap, rfl, hg1, hg2, hc, hm, hs⟩ := (h.wt.block hq).at_ h0
  have hl := h.le
  have hbg := h.big
  have hb' : B4 w1 B 34 (.slice (some ⟨g, off, none⟩) s.l.length cap) (.int .i64 (s.line : Int)) (.int .i64 ((s.pos : Int) + 1)) (.int .i64 ((s.size + 1 : Nat) : Int)) := hb
  unfold lineT
  by_cases he : s.pos = s.line
  · exact (wtext_end B g off cap s.l.length s.l s.line s.pos (s.size + 1) w1 rfl hb' hs he hp hc hm hbg).mono fun e w' ht => ⟨g, 0, hg1, rfl, Nat.zero_le _, ht⟩
  · exact (wtext_at B g off cap s.l.length s.l s.line s.pos (s.size + 1) w1 rfl hb' hs hl hp hc hm hbg he).mono fun e w' ht => ⟨g, s.pos - s.line, hg1, rfl, by omega, ht⟩
end Go.Proofs.YtkkdplccneeaiaaGreatDoor

/- Layer 18: contracts of package wire: bad, pass. -/
namespace Go.Proofs.YtkkdplccneeaiaaGreatDoor
open Go Go.RowKit

theorem B2.newAt (w : World) (t : TypeId) (x y : Value) (n : Nat) (h : n = w.heap.size) : (w.alloc (.cells #[x, y] t)).heap[n]? = some (.cells #[x, y] t (0, 0)) := by subst h; exact heap_alloc_new w _
theorem B4.all {w : World} {B : Nat} {t : TypeId} {x y z u : Value} (h : B4 w B t x y z u) (a b c d : Value) : B4 ((((w.setCell ⟨B, 0, none⟩ a).setCell ⟨B, 1, none⟩ b).setCell ⟨B, 2, none⟩ c).setCell ⟨B, 3, none⟩ d) B t a b c d :=
  (((h.set0 a).set1 b).set2 c).set3 d
theorem Gr.four {B : Nat} {w0 w : World} (h : Gr B w0 w) (a b c d : Value) : Gr B w0 ((((w.setCell ⟨B, 0, none⟩ a).setCell ⟨B, 1, none⟩ b).setCell ⟨B, 2, none⟩ c).setCell ⟨B, 3, none⟩ d) :=
  (((h.set 0 a).set 1 b).set 2 c).set 3 d
set_option maxRecDepth 100000 in
set_option maxHeartbeats 2000000 in
theorem wbad_any (B : Nat) (x y z u : Value) (w : World) (hb : B4 w B 34 x y z u) :
    Calls Tryz.prog 40 #[.pointer (some ⟨B, 0, none⟩)] w fun e w' => e = .returned (.agg #[.int .i64 3, .slice none 0 0]) ∧ B4 w' B 34 (.slice none 0 0) (.int .i64 0) (.int .i64 0) (.int .i64 0) ∧ Gr B w w' := by
  have HB := Lib.hid hb
  have hlt := hb.lt
  obtain ⟨c0, c1, c2, c3⟩ := hb.c
  have f0 := hb.f 0
  have f1 := hb.f 1
  have f2 := hb.f 2
  have f3 := hb.f 3
  clear hb
  go_enter Tryz.func40, Tryz.ntmps40
  go_wp2_with fail
  (try simp only [Exit.inBlock, Exit.then])
  refine bodyPost_ret (results_cell_row (P := Tryz.prog) Tryz.results40 _ _ w.heap.size 44 _ (0, 0) _ rfl (B2.newAt _ _ _ _ _ (by simp)) Tryz.underlying44 rfl (by kernel_rfl)) rfl ?_
  have h4 := HB.out.all (.slice none 0 0) (.int .i64 0) (.int .i64 0) (.int .i64 0)
  exact ⟨rfl, h4.below ((Below.refl _ _).alloc (Nat.le_refl _) _), ((Gr.refl B w).four _ _ _ _).below ((Below.refl _ _).alloc (Nat.le_refl _) _)⟩
/-- What 'pass' leaves. -/
def PsW (B : Nat) (v : Value) (P S : Int) (a : Bool) (w : World) (e : Ending) (w' : World) : Prop :=
  e = .returned (.bool a) ∧ B4 w' B 34 v (.int .i64 P) (.int .i64 P) (.int .i64 S) ∧ Gr B w w'
set_option maxRecDepth 100000 in
set_option maxHeartbeats 4000000 in
theorem wpass_any (B : Nat) (ao : Option Addr) (n cap : Nat) (L : Int) (P m : Nat) (S : Int) (q : Bool) (w : World) (hb : B4 w B 34 (.slice ao n cap) (.int .i64 L) (.int .i64 (P : Int)) (.int .i64 S)) (hP : P ≤ 2000000000) (hm : m ≤ 4294967295) (a : Bool) (ha : a = (!q && (P == n))) :
    Calls Tryz.prog 44 #[.pointer (some ⟨B, 0, none⟩), .agg #[.int .i64 (m : Int), .bool q]] w (PsW B (.slice ao n cap) ((P : Int) + (m : Int)) S a w) := by
  have HB := Lib.hid hb
  have hlt := hb.lt
  have hPi : (P : Int) ≤ 2000000000 := by omega
  have hmi : (m : Int) ≤ 4294967295 := by omega
  obtain ⟨w0, hw0⟩ : ∃ x, x = w.alloc (.cells #[.int .i64 (m : Int), .bool q] 68) := ⟨_, rfl⟩
  have hbl : Below w.heap.size w w0 := by rw [hw0]; exact (Below.refl _ _).alloc (Nat.le_refl _) _
  have HB0 := Lib.hid (hb.below hbl)
  have HN0 : Hid (B2 w0 w.heap.size 68 (.int .i64 (m : Int)) (.bool q)) := by unfold Hid; rw [hw0]; exact B2.new _ _ _ _
  have HG0 : Hid (Gr B w w0) := (Gr.refl B w).below hbl
  have HW0 := Lib.hid hw0
  have HA := Lib.hid ha
  obtain ⟨c0, c1, c2, c3⟩ := HB0.out.c
  have C0 := BW.cell c0
  have C2 := BW.cell c2
  have D1 := BW.cell HN0.out.c1
  have D0 := HN0.out.c0
  clear hb hbl hw0 ha
  go_enter Tryz.func44, Tryz.ntmps44
  go_wp2_with fail
  rw [← HW0.out]
  cases q with
  | true =>
    obtain rfl : a = false := HA.out
    refine wp_region_below (by kernel_rfl) (by kernel_rfl) ?_
    repeat (go_big_quiet_step (fail))
    refine wpQuiet_nil ?_
    rintro W1 ⟨⟨_, hb1⟩, rfl⟩
    have HB1 := Lib.hid (HB0.out.below hb1)
    have HN1 := Lib.hid (HN0.out.below hb1)
    have HG1 := Lib.hid (HG0.out.below hb1)
    clear hb1 c0 c1 c2 c3 C0 C2 D0 D1
    obtain ⟨c0, c1, c2, c3⟩ := HB1.out.c
    have f0 := HB1.out.f 0
    have f1 := HB1.out.f 1
    have f2 := HB1.out.f 2
    have n0 := HN1.out.c0
    have hz1 : ¬ w.heap.size = B := by omega
    have hz2 : ¬ B = w.heap.size := by omega
    go_wp2_with fail
    go_region
    all_goals
      go_wp2_with fail
      go_ret
      exact ⟨rfl, ((HB1.out.set2 _).set1 _).below (Below.refl _ _).drew, ((HG1.out.set 2 _).set 1 _).below (Below.refl _ _).drew⟩
  | false =>
    by_cases hpn : P = n
    · have b3 : ((P : Int) == (n : Int)) = true := by rw [hpn]; simp
      obtain rfl : a = true := by rw [HA.out, hpn]; simp
      clear hpn
      refine wp_region_below (by kernel_rfl) (by kernel_rfl) ?_
      repeat (go_big_quiet_step (fail))
      refine wpQuiet_nil ?_
      rintro W1 ⟨⟨_, hb1⟩, rfl⟩
      have HB1 := Lib.hid (HB0.out.below hb1)
      have HN1 := Lib.hid (HN0.out.below hb1)
      have HG1 := Lib.hid (HG0.out.below hb1)
      clear hb1 c0 c1 c2 c3 C0 C2 D0 D1
      obtain ⟨c0, c1, c2, c3⟩ := HB1.out.c
      have f0 := HB1.out.f 0
      have f1 := HB1.out.f 1
      have f2 := HB1.out.f 2
      have n0 := HN1.out.c0
      have hz1 : ¬ w.heap.size = B := by omega
      have hz2 : ¬ B = w.heap.size := by omega
      go_wp2_with fail
      go_region
      all_goals
        go_wp2_with fail
        go_ret
        exact ⟨rfl, ((HB1.out.set2 _).set1 _).below (Below.refl _ _).drew, ((HG1.out.set 2 _).set 1 _).below (Below.refl _ _).drew⟩
    · have b3 : ((P : Int) == (n : Int)) = false := beq_no (by omega)
      obtain rfl : a = false := by rw [HA.out]; simp [hpn]
      clear hpn
      refine wp_region_below (by kernel_rfl) (by kernel_rfl) ?_
      repeat (go_big_quiet_step (fail))
      refine wpQuiet_nil ?_
      rintro W1 ⟨⟨_, hb1⟩, rfl⟩
      have HB1 := Lib.hid (HB0.out.below hb1)
      have HN1 := Lib.hid (HN0.out.below hb1)
      have HG1 := Lib.hid (HG0.out.below hb1)
      clear hb1 c0 c1 c2 c3 C0 C2 D0 D1
      obtain ⟨c0, c1, c2, c3⟩ := HB1.out.c
      have f0 := HB1.out.f 0
      have f1 := HB1.out.f 1
      have f2 := HB1.out.f 2
      have n0 := HN1.out.c0
      have hz1 : ¬ w.heap.size = B := by omega
      have hz2 : ¬ B = w.heap.size := by omega
      go_wp2_with fail
      go_region
      all_goals
        go_wp2_with fail
        go_ret
        exact ⟨rfl, ((HB1.out.set2 _).set1 _).below (Below.refl _ _).drew, ((HG1.out.set 2 _).set 1 _).below (Below.refl _ _).drew⟩
end Go.Proofs.YtkkdplccneeaiaaGreatDoor
