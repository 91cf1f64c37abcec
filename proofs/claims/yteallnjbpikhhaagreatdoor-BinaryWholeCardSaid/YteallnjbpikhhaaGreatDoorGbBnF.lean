/- Contracts of package binary: Get, Size. -/
import Derived.Test.YteallnjbpikhhaaGreatDoorGbBnC
import Derived.Test.YteallnjbpikhhaaGreatDoorGbFfC
import Derived.Test.YteallnjbpikhhaaGreatDoorGbFeK
namespace Go.Proofs.YteallnjbpikhhaaGreatDoor
open Go Go.RowKit

def bgetPost (r : List UInt8 × Int) (w : World) (e : Ending) (w' : World) : Prop := ∃ u, e = .returned (.tuple #[u, .int .i64 r.2]) ∧ bytesArg w' u r.1 ∧ Below w.heap.size w w'
theorem binL_some {l : List UInt8} {t q : Tr} {p : List Int} (h : p ≠ []) (hd : downT true t p = some q) : binL l t p = telL (binP l q) := by
  match p, h with
  | n :: r, _ =>
    show (match downT true t (n :: r) with | none => ([], 30) | some q => telL (binP l q)) = _
    rw [hd]
theorem binL_none {l : List UInt8} {t : Tr} {p : List Int} (h : p ≠ []) (hd : downT true t p = none) : binL l t p = ([], 30) := by
  match p, h with
  | n :: r, _ =>
    show (match downT true t (n :: r) with | none => ([], 30) | some q => telL (binP l q)) = _
    rw [hd]
set_option maxRecDepth 100000 in
set_option maxHeartbeats 4000000 in
theorem bget_any (v : Value) (l : List UInt8) (t : Tr) (ks cs : Value) (p : List Int) (a1 : Option Addr) (c1 : Nat) (w : World) (hv : bytesArg w v l) (hl : l.length ≤ 100000) (ht : okT l.length t) (hlo : lowT t) (hta : tAt w t (ptV t ks cs)) (hp : rowOf w (.slice a1 p.length c1) (p.map intV)) (hpl : p.length ≤ 1000000000) (hls : lets w) :
    Calls Tryz.prog 9 #[v, ptV t ks cs, .slice a1 p.length c1] w (bgetPost (binL l t p) w) := by
  have HV := Lib.hid hv
  obtain ⟨ao, cap, rfl, hc, hm, _⟩ := hv
  have HTa := Lib.hid hta
  have HP := Lib.hid hp
  have HLs := Lib.hid hls
  obtain ⟨⟨o1, o2, o3, o4⟩, _⟩ := okT_open ht
  have HBy := Lib.hid (fun W h1 => bbytesOf_any (.slice ao l.length cap) l t.hd.1 t.bd.2 W h1 (by omega) o4)
  have hbl := partS_le l t.hd.1 t.bd.2
  have HCl := Lib.hid (fun u W h => clone_any u (partS l t.hd.1 t.bd.2) W h (by omega))
  have HX0 : Hid ((w.alloc (.cells #[.int .i64 (t.kind : Int), .int .i64 (t.hd.1 : Int), .int .i64 (t.hd.2 : Int), .int .i64 (t.bd.1 : Int), .int .i64 (t.bd.2 : Int), ks, cs, .int .i64 (t.e.1 : Int), .int .i64 (t.e.2 : Int)] 32)).heap[w.heap.size]? = some (ptO t ks cs)) := heap_alloc_new w _
  have HC0 : Hid (Below w.heap.size w (w.alloc (.cells #[.int .i64 (t.kind : Int), .int .i64 (t.hd.1 : Int), .int .i64 (t.hd.2 : Int), .int .i64 (t.bd.1 : Int), .int .i64 (t.bd.2 : Int), ks, cs, .int .i64 (t.e.1 : Int), .int .i64 (t.e.2 : Int)] 32))) := (Below.refl _ _).alloc (Nat.le_refl _) _
  unfold bgetPost
  unfold bytesPost at HBy HCl
  by_cases hne : p = []
  · subst hne
    have hR : binL l t [] = (partS l t.hd.1 t.bd.2, 0) := rfl
    rw [hR]
    clear hR
    obtain ⟨d, hd⟩ : ∃ d, d = partS l t.hd.1 t.bd.2 := ⟨_, rfl⟩
    rw [← hd] at HBy HCl ⊢
    clear hd hbl o1 o2 o3 o4 ht hlo hta hp hls hpl
    unfold ptV
    go_enter Tryz.func9, Tryz.ntmps9
    go_upto_region 1 with fail
    generalize (w.alloc (.cells #[.int .i64 (t.kind : Int), .int .i64 (t.hd.1 : Int), .int .i64 (t.hd.2 : Int), .int .i64 (t.bd.1 : Int), .int .i64 (t.bd.2 : Int), ks, cs, .int .i64 (t.e.1 : Int), .int .i64 (t.e.2 : Int)] 32)) = x0 at HX0 HC0 ⊢
    obtain ⟨t0, t1, t2, t3, t4, t5, t6, t7, t8⟩ := part_cells HX0.out
    go_wp2_with fail
    with_reducible refine (HBy.out x0 (bytesArg.below HV.out HC0.out)).mono ?_
    rintro e w1 ⟨u, rfl, hu, hb⟩
    have HU1 := Lib.hid hu
    have HC1 := Lib.hid (HC0.out.trans (hb.mono HC0.out.size))
    clear hu hb t0 t1 t2 t3 t4 t5 t6 t7 t8
    obtain ⟨uo, uc, rfl, _, _, _⟩ := HU1.out
    go_wp2_with fail
    with_reducible refine (HCl.out _ _ HU1.out).mono ?_
    rintro e w2 ⟨u2, rfl, hu2, hb⟩
    have HU2 := Lib.hid hu2
    have HC2 := Lib.hid (HC1.out.trans (hb.mono HC1.out.size))
    clear hu2 hb
    go_wp2_with fail
    go_ret2
    exact ⟨u2, rfl, HU2.out, HC2.out⟩
  have hlen : ¬ p.length = 0 := fun h => hne (List.eq_nil_of_length_eq_zero h)
  have hz : ((p.length : Int) == 0) = false := beq_no (by omega)
  clear HBy HCl hbl
  cases hd : downT true t p with
  | none =>
    rw [binL_none hne hd]
    have HFi := Lib.hid (fun ks' cs' W h1 h2 => ffind_none t ks' cs' p a1 c1 W h1 h2 hne (by omega) hd)
    unfold ptV at HFi HTa ⊢
    clear hd hne o1 o2 o3 o4 ht hlo hta hp hls hpl hlen
    go_enter Tryz.func9, Tryz.ntmps9
    go_upto_region 1 with fail
    generalize (w.alloc (.cells #[.int .i64 (t.kind : Int), .int .i64 (t.hd.1 : Int), .int .i64 (t.hd.2 : Int), .int .i64 (t.bd.1 : Int), .int .i64 (t.bd.2 : Int), ks, cs, .int .i64 (t.e.1 : Int), .int .i64 (t.e.2 : Int)] 32)) = x0 at HX0 HC0 ⊢
    obtain ⟨t0, t1, t2, t3, t4, t5, t6, t7, t8⟩ := part_cells HX0.out
    go_wp2_with fail
    with_reducible refine (HFi.out _ _ x0 (HTa.out.below HC0.out) (HP.out.below HC0.out)).mono ?_
    rintro e w1 ⟨rfl, hb⟩
    have HC1 := Lib.hid (HC0.out.trans (hb.mono HC0.out.size))
    clear hb t0 t1 t2 t3 t4 t5 t6 t7 t8
    go_wp2_with fail
    go_ret2
    exact ⟨_, rfl, bytesArg_nil _, HC1.out.alloc HC1.out.size _⟩
  | some q =>
    rw [binL_some hne hd]
    have hq := downT_ok p true t q ht hd
    have HFi := Lib.hid (fun ks' cs' W h1 h2 => ffind_some t q ks' cs' p a1 c1 W hlo h1 h2 hne (by omega) hd)
    have HBa := Lib.hid (fun ks' cs' W h1 h2 => bare_anyB (.slice ao l.length cap) l q ks' cs' W h1 hl hq h2)
    obtain ⟨o, ho⟩ : ∃ o, o = binP l q := ⟨_, rfl⟩
    rw [← ho] at HBa ⊢
    unfold findPost at HFi
    unfold bareP at HBa
    unfold ptV at HFi HTa HBa ⊢
    clear hd hne o1 o2 o3 o4 ht hlo hta hp hls hpl hlen hq ho
    go_enter Tryz.func9, Tryz.ntmps9
    go_upto_region 1 with fail
    generalize (w.alloc (.cells #[.int .i64 (t.kind : Int), .int .i64 (t.hd.1 : Int), .int .i64 (t.hd.2 : Int), .int .i64 (t.bd.1 : Int), .int .i64 (t.bd.2 : Int), ks, cs, .int .i64 (t.e.1 : Int), .int .i64 (t.e.2 : Int)] 32)) = x0 at HX0 HC0 ⊢
    obtain ⟨t0, t1, t2, t3, t4, t5, t6, t7, t8⟩ := part_cells HX0.out
    go_wp2_with fail
    with_reducible refine (HFi.out _ _ x0 (HTa.out.below HC0.out) (HP.out.below HC0.out)).mono ?_
    rintro e w1 ⟨ka, kc, ca, cc, rfl, _, hb⟩
    have HC1 := Lib.hid (HC0.out.trans (hb.mono HC0.out.size))
    clear hb t0 t1 t2 t3 t4 t5 t6 t7 t8
    go_upto_region 4 with fail
    have HX1 : Hid ((w1.alloc (.cells #[.int .i64 (q.kind : Int), .int .i64 (q.hd.1 : Int), .int .i64 (q.hd.2 : Int), .int .i64 (q.bd.1 : Int), .int .i64 (q.bd.2 : Int), .slice ka q.kids.length kc, .slice ca q.cuts.length cc, .int .i64 (q.e.1 : Int), .int .i64 (q.e.2 : Int)] 32)).heap[w1.heap.size]? = some (ptO q (.slice ka q.kids.length kc) (.slice ca q.cuts.length cc))) := heap_alloc_new w1 _
    have HD1 : Hid (Below w1.heap.size w1 (w1.alloc (.cells #[.int .i64 (q.kind : Int), .int .i64 (q.hd.1 : Int), .int .i64 (q.hd.2 : Int), .int .i64 (q.bd.1 : Int), .int .i64 (q.bd.2 : Int), .slice ka q.kids.length kc, .slice ca q.cuts.length cc, .int .i64 (q.e.1 : Int), .int .i64 (q.e.2 : Int)] 32))) := (Below.refl _ _).alloc (Nat.le_refl _) _
    generalize (w1.alloc (.cells #[.int .i64 (q.kind : Int), .int .i64 (q.hd.1 : Int), .int .i64 (q.hd.2 : Int), .int .i64 (q.bd.1 : Int), .int .i64 (q.bd.2 : Int), .slice ka q.kids.length kc, .slice ca q.cuts.length cc, .int .i64 (q.e.1 : Int), .int .i64 (q.e.2 : Int)] 32)) = x1 at HX1 HD1 ⊢
    obtain ⟨t0, t1, t2, t3, t4, t5, t6, t7, t8⟩ := part_cells HX1.out
    have HC2 : Hid (Below w.heap.size w x1) := HC1.out.trans (HD1.out.mono HC1.out.size)
    go_wp2_with fail
    with_reducible refine (HBa.out _ _ x1 (bytesArg.below HV.out HC2.out) (HLs.out.below HC2.out)).mono ?_
    rintro e w2 ⟨⟨u, rfl, hu⟩, hb⟩
    have HU := Lib.hid hu
    have HC3 := Lib.hid (HC2.out.trans (hb.mono HC2.out.size))
    clear hu hb t0 t1 t2 t3 t4 t5 t6 t7 t8
    cases o with
    | none =>
      have hi : ((none : Option (List UInt8)).isSome) = false := rfl
      rw [hi]
      go_wp2_with fail
      go_ret2
      exact ⟨_, rfl, bytesArg_nil _, HC3.out⟩
    | some r =>
      have hi : ((some r : Option (List UInt8)).isSome) = true := rfl
      rw [hi]
      go_wp2_with fail
      go_ret2
      exact ⟨u, rfl, HU.out, HC3.out⟩
set_option maxRecDepth 100000 in
set_option maxHeartbeats 2000000 in
theorem bsize_any (v : Value) (l : List UInt8) (t : Tr) (ks cs : Value) (p : List Int) (a1 : Option Addr) (c1 : Nat) (w : World) (hv : bytesArg w v l) (hl : l.length ≤ 100000) (ht : okT l.length t) (hlo : lowT t) (hta : tAt w t (ptV t ks cs)) (hp : rowOf w (.slice a1 p.length c1) (p.map intV)) (hpl : p.length ≤ 1000000000) (hls : lets w) :
    Calls Tryz.prog 11 #[v, ptV t ks cs, .slice a1 p.length c1] w fun e w' => e = .returned (.tuple #[.int .i64 ((binL l t p).1.length : Int), .int .i64 (binL l t p).2]) ∧ Below w.heap.size w w' := by
  have HV := Lib.hid hv
  have HTa := Lib.hid hta
  have HP := Lib.hid hp
  have HLs := Lib.hid hls
  have HG := Lib.hid (fun W h1 h2 h3 h4 => bget_any v l t ks cs p a1 c1 W h1 hl ht hlo h2 h3 hpl h4)
  obtain ⟨r, hr⟩ : ∃ r, r = binL l t p := ⟨_, rfl⟩
  rw [← hr] at HG ⊢
  obtain ⟨r1, r2⟩ := r
  unfold bgetPost at HG
  simp only at HG ⊢
  have HX0 : Hid ((w.alloc (.cells #[.int .i64 (t.kind : Int), .int .i64 (t.hd.1 : Int), .int .i64 (t.hd.2 : Int), .int .i64 (t.bd.1 : Int), .int .i64 (t.bd.2 : Int), ks, cs, .int .i64 (t.e.1 : Int), .int .i64 (t.e.2 : Int)] 32)).heap[w.heap.size]? = some (ptO t ks cs)) := heap_alloc_new w _
  have HC0 : Hid (Below w.heap.size w (w.alloc (.cells #[.int .i64 (t.kind : Int), .int .i64 (t.hd.1 : Int), .int .i64 (t.hd.2 : Int), .int .i64 (t.bd.1 : Int), .int .i64 (t.bd.2 : Int), ks, cs, .int .i64 (t.e.1 : Int), .int .i64 (t.e.2 : Int)] 32))) := (Below.refl _ _).alloc (Nat.le_refl _) _
  unfold ptV at HG HTa ⊢
  clear hr hv ht hlo hta hp hls hpl
  go_enter Tryz.func11, Tryz.ntmps11
  go_upto_region 1 with fail
  generalize (w.alloc (.cells #[.int .i64 (t.kind : Int), .int .i64 (t.hd.1 : Int), .int .i64 (t.hd.2 : Int), .int .i64 (t.bd.1 : Int), .int .i64 (t.bd.2 : Int), ks, cs, .int .i64 (t.e.1 : Int), .int .i64 (t.e.2 : Int)] 32)) = x0 at HX0 HC0 ⊢
  obtain ⟨t0, t1, t2, t3, t4, t5, t6, t7, t8⟩ := part_cells HX0.out
  go_wp2_with fail
  with_reducible refine (HG.out x0 (bytesArg.below HV.out HC0.out) (HTa.out.below HC0.out) (HP.out.below HC0.out) (HLs.out.below HC0.out)).mono ?_
  rintro e w1 ⟨u, rfl, hu, hb⟩
  have HU := Lib.hid hu
  have HC1 := Lib.hid (HC0.out.trans (hb.mono HC0.out.size))
  clear hu hb t0 t1 t2 t3 t4 t5 t6 t7 t8
  obtain ⟨uo, uc, rfl, _, _, _⟩ := HU.out
  go_wp2_with fail
  go_ret2
  exact ⟨rfl, HC1.out⟩
end Go.Proofs.YteallnjbpikhhaaGreatDoor

/- The example that every statement of layer 17 asks first. -/
namespace Go.Proofs.YteallnjbpikhhaaGreatDoor
open Go Go.RowKit

def bexZ : List Int := [67, 111, 110, 116, 101, 110, 116, 45, 84, 114, 97, 110, 115, 102, 101, 114, 45, 69, 110, 99, 111, 100, 105, 110, 103, 58, 32, 66, 65, 83, 69, 54, 52, 13, 10, 13, 10, 81, 85, 73, 61]
def bexC : Array Value := (bexZ.map (Value.int .u8)).toArray
theorem bexC_row : bexC.toList = bexB.map byteV := by kernel_rfl
theorem bexC_size : bexC.size = 41 := by kernel_rfl
theorem bex_row (w : World) (t : TypeId) (fr : Nat × Nat) : bytesArg (w.alloc (.cells bexC t fr)) (.slice (some ⟨w.heap.size, 0, none⟩) 41 41) bexB :=
  (sliceAt_new w t fr bexC bexB bexC_row).arg (cap := 41) (by decide) (by unfold maxLen; decide)
theorem bex_okT : okT bexB.length (leafT 0 37 41) := by rw [← bex_tree]; exact tree_okT bexB
theorem bex_low : lowT (leafT 0 37 41) := by rw [← bex_tree]; exact tree_low bexB
set_option maxRecDepth 100000 in
set_option maxHeartbeats 4000000 in
theorem bawake_any (w : World) (he : env w) (hls : lets w) : Calls Tryz.prog 5 #[] w fun e w' => e = .returned (.bool true) ∧ Below w.heap.size w w' := by
  have HE := Lib.hid he
  have HLs := Lib.hid hls
  have HPa : Hid (∀ W v, bytesArg W v bexB → env W → Calls Tryz.prog 8 #[v] W fun e w' => ∃ ka kn kc ca cn cc, e = .returned (.tuple #[.agg #[.int .i64 0, .int .i64 0, .int .i64 37, .int .i64 37, .int .i64 41, .slice ka kn kc, .slice ca cn cc, .int .i64 0, .int .i64 0], .int .i64 0]) ∧
      treeAt (fun k => W.heap.size ≤ k) w' (leafT 0 37 41) (.agg #[.int .i64 0, .int .i64 0, .int .i64 37, .int .i64 37, .int .i64 41, .slice ka kn kc, .slice ca cn cc, .int .i64 0, .int .i64 0]) ∧ Below W.heap.size W w') := fun W v h hE => by
    have := treeParse_any v bexB W h (by decide) hE
    unfold treePost at this
    rw [bex_tree] at this
    exact this
  have kc := fun (w : World) (C : Array Value) (n c : Nat) => Lib.run_convert_bytes_const (P := Tryz.prog) w 22 5 C n c Tryz.underlying22 Tryz.underlying5
  clear he hls
  go_enter Tryz.func5, Tryz.ntmps5
  go_upto_region 1 with fail
  apply wp_region_lit
  refine wpList_buildFlat rfl 22 5 41 _ rfl .u8 bexZ Tryz.underlying22 (by kernel_rfl) (by kernel_rfl) (by kernel_rfl) (by decide) (by decide) (by kernel_rfl) ?_
  have hC : (bexZ.map (Value.int .u8)).toArray = bexC := rfl
  rw [hC]
  clear hC
  go_wp2_with fail
  with_reducible refine (HPa.out _ _ ?h1 ?h2).mono ?_
  case h1 => exact bex_row _ _ _
  case h2 => exact HE.out.below ((Below.refl _ _).alloc (Nat.le_refl _) _)
  rintro e w5 ⟨ka, kn, kc', ca, cn, cc, rfl, ht, hb5⟩
  have HB5 : Hid (Below w.heap.size w w5) := ((Below.refl _ _).alloc (Nat.le_refl _) _).trans (hb5.mono (by simp))
  have hrow := bytesArg.below (bex_row w 5 (bexC.size, bexC.size + 1)) hb5
  have hta : tAt w5 (leafT 0 37 41) (ptV (leafT 0 37 41) (.slice ka kn kc') (.slice ca cn cc)) := tAt.of ht
  have hle := HLs.out.below HB5.out
  have HG1 : Hid (∀ (W : World) (a1 : Option Addr) (c1 : Nat), Below w5.heap.size w5 W → rowOf W (.slice a1 1 c1) [intV 1] → Calls Tryz.prog 9 #[.slice (some ⟨w.heap.size, 0, none⟩) 41 41, .agg #[.int .i64 0, .int .i64 0, .int .i64 37, .int .i64 37, .int .i64 41, .slice ka kn kc', .slice ca cn cc, .int .i64 0, .int .i64 0], .slice a1 1 c1] W fun e w' => ∃ u, e = .returned (.tuple #[u, .int .i64 0]) ∧ bytesArg w' u [65, 66] ∧ Below W.heap.size W w') := fun W a1 c1 hb h => by
    have hg := bget_any _ bexB (leafT 0 37 41) (.slice ka kn kc') (.slice ca cn cc) [1] a1 c1 W (bytesArg.below hrow hb) (by decide) bex_okT bex_low (hta.below hb) h (by decide) (hle.below hb)
    rw [bex_one] at hg
    exact hg
  have HG2 : Hid (∀ (W : World) (a1 : Option Addr) (c1 : Nat), Below w5.heap.size w5 W → rowOf W (.slice a1 1 c1) [intV 2] → Calls Tryz.prog 9 #[.slice (some ⟨w.heap.size, 0, none⟩) 41 41, .agg #[.int .i64 0, .int .i64 0, .int .i64 37, .int .i64 37, .int .i64 41, .slice ka kn kc', .slice ca cn cc, .int .i64 0, .int .i64 0], .slice a1 1 c1] W fun e w' => ∃ u, e = .returned (.tuple #[u, .int .i64 30]) ∧ bytesArg w' u [] ∧ Below W.heap.size W w') := fun W a1 c1 hb h => by
    have hg := bget_any _ bexB (leafT 0 37 41) (.slice ka kn kc') (.slice ca cn cc) [2] a1 c1 W (bytesArg.below hrow hb) (by decide) bex_okT bex_low (hta.below hb) h (by decide) (hle.below hb)
    rw [bex_two] at hg
    exact hg
  have HS1 : Hid (∀ (W : World) (a1 : Option Addr) (c1 : Nat), Below w5.heap.size w5 W → rowOf W (.slice a1 1 c1) [intV 1] → Calls Tryz.prog 11 #[.slice (some ⟨w.heap.size, 0, none⟩) 41 41, .agg #[.int .i64 0, .int .i64 0, .int .i64 37, .int .i64 37, .int .i64 41, .slice ka kn kc', .slice ca cn cc, .int .i64 0, .int .i64 0], .slice a1 1 c1] W fun e w' => e = .returned (.tuple #[.int .i64 2, .int .i64 0]) ∧ Below W.heap.size W w') := fun W a1 c1 hb h => by
    have hg := bsize_any _ bexB (leafT 0 37 41) (.slice ka kn kc') (.slice ca cn cc) [1] a1 c1 W (bytesArg.below hrow hb) (by decide) bex_okT bex_low (hta.below hb) h (by decide) (hle.below hb)
    rw [bex_one] at hg
    exact hg
  have HEn : Hid (∀ (W : World), Below w5.heap.size w5 W → Calls Tryz.prog 12 #[.slice (some ⟨w.heap.size, 0, none⟩) 41 41, .agg #[.int .i64 0, .int .i64 0, .int .i64 37, .int .i64 37, .int .i64 41, .slice ka kn kc', .slice ca cn cc, .int .i64 0, .int .i64 0]] W fun e w' => e = .returned (.string ⟨#[98, 97, 115, 101, 54, 52]⟩) ∧ Below W.heap.size W w') := fun W hb => by
    have hg := encoding_any _ bexB (leafT 0 37 41) (.slice ka kn kc') (.slice ca cn cc) W (bytesArg.below hrow hb) (by decide) bex_okT
    rw [bex_enc] at hg
    exact hg
  clear ht hb5 hrow hta HPa kc hle
  go_upto_region 3 with fail
  have HX0 : Hid ((w5.alloc (.cells #[.int .i64 0, .int .i64 0, .int .i64 37, .int .i64 37, .int .i64 41, .slice ka kn kc', .slice ca cn cc, .int .i64 0, .int .i64 0] 32)).heap[w5.heap.size]? = some (partO 0 0 37 37 41 (.slice ka kn kc') (.slice ca cn cc) 0 0)) := heap_alloc_new w5 _
  have HC0 : Hid (Below w5.heap.size w5 (w5.alloc (.cells #[.int .i64 0, .int .i64 0, .int .i64 37, .int .i64 37, .int .i64 41, .slice ka kn kc', .slice ca cn cc, .int .i64 0, .int .i64 0] 32))) := (Below.refl _ _).alloc (Nat.le_refl _) _
  generalize (w5.alloc (.cells #[.int .i64 0, .int .i64 0, .int .i64 37, .int .i64 37, .int .i64 41, .slice ka kn kc', .slice ca cn cc, .int .i64 0, .int .i64 0] 32)) = x0 at HX0 HC0 ⊢
  obtain ⟨t0, t1, t2, t3, t4, t5, t6, t7, t8⟩ := part_cells HX0.out
  have hx0 : w5.heap.size < x0.heap.size := (Array.getElem?_eq_some_iff.1 HX0.out).1
  go_wp2_with fail
  with_reducible refine (HG1.out _ _ 1 ?k1 ?k2).mono ?_
  case k1 => exact HC0.out.alloc HC0.out.size _
  case k2 => exact rowOf_one _ _ _
  rintro e x1 ⟨u1, rfl, hu, hb⟩
  have HU1 := Lib.hid hu
  have hg1 : Below x0.heap.size x0 x1 := ((Below.refl _ _).alloc (Nat.le_refl _) _).trans (hb.mono (by simp))
  have HX1 := Lib.hid ((hg1.block _ hx0).trans HX0.out)
  have HC1 := Lib.hid (HC0.out.trans (hg1.mono HC0.out.size))
  have HD1 := Lib.hid hg1
  clear hb hg1 t0 t1 t2 t3 t4 t5 t6 t7 t8 hu
  obtain ⟨t0, t1, t2, t3, t4, t5, t6, t7, t8⟩ := part_cells HX1.out
  have hx1 : w5.heap.size < x1.heap.size := (Array.getElem?_eq_some_iff.1 HX1.out).1
  go_wp2_with fail
  with_reducible refine (HG2.out _ _ 1 ?k1 ?k2).mono ?_
  case k1 => exact HC1.out.alloc HC1.out.size _
  case k2 => exact rowOf_one _ _ _
  rintro e x2 ⟨u2, rfl, hu, hb⟩
  have HU2 := Lib.hid hu
  have hg2 : Below x1.heap.size x1 x2 := ((Below.refl _ _).alloc (Nat.le_refl _) _).trans (hb.mono (by simp))
  have HX2 := Lib.hid ((hg2.block _ hx1).trans HX1.out)
  have HC2 := Lib.hid (HC1.out.trans (hg2.mono HC1.out.size))
  have HD2 := Lib.hid hg2
  clear hb hg2 t0 t1 t2 t3 t4 t5 t6 t7 t8 hu
  obtain ⟨t0, t1, t2, t3, t4, t5, t6, t7, t8⟩ := part_cells HX2.out
  have hx2 : w5.heap.size < x2.heap.size := (Array.getElem?_eq_some_iff.1 HX2.out).1
  go_wp2_with fail
  with_reducible refine (HS1.out _ _ 1 ?k1 ?k2).mono ?_
  case k1 => exact HC2.out.alloc HC2.out.size _
  case k2 => exact rowOf_one _ _ _
  rintro e x3 ⟨rfl, hb⟩
  have hg3 : Below x2.heap.size x2 x3 := ((Below.refl _ _).alloc (Nat.le_refl _) _).trans (hb.mono (by simp))
  have HX3 := Lib.hid ((hg3.block _ hx2).trans HX2.out)
  have HC3 := Lib.hid (HC2.out.trans (hg3.mono HC2.out.size))
  have HD3 := Lib.hid hg3
  clear hb hg3 t0 t1 t2 t3 t4 t5 t6 t7 t8
  obtain ⟨t0, t1, t2, t3, t4, t5, t6, t7, t8⟩ := part_cells HX3.out
  have hx3 : w5.heap.size < x3.heap.size := (Array.getElem?_eq_some_iff.1 HX3.out).1
  have HK1 := Lib.hid (fun (W : World) (hb : Below x3.heap.size x3 W) => bytesArg_string (bytesArg.below HU1.out (HD2.out.trans ((HD3.out.trans (hb.mono HD3.out.size)).mono HD2.out.size))))
  have k1 := HK1.out _ (Below.refl _ _)
  go_wp2_with fail
  with_reducible refine (HEn.out _ HC3.out).mono ?_
  rintro e x4 ⟨rfl, hb⟩
  have HC4 := Lib.hid (HC3.out.trans (hb.mono HC3.out.size))
  clear hb t0 t1 t2 t3 t4 t5 t6 t7 t8 k1
  go_wp2_with fail
  go_ret
  exact ⟨rfl, HB5.out.trans (HC4.out.mono HB5.out.size)⟩
end Go.Proofs.YteallnjbpikhhaaGreatDoor

/- What the laws of layer 17 know of a message whose one field names an encoding. -/
namespace Go.Proofs.YteallnjbpikhhaaGreatDoor
open Go Go.RowKit

theorem bm_parse {F L : List UInt8} {K : Nat} (h : Frt F K L) (s : List UInt8) (hs : (F ++ s).length ≤ 100000) (v : Value) (w : World) (hv : bytesArg w v (F ++ s)) (he : env w) :
    Calls Tryz.prog 8 #[v] w fun e w' => ∃ ka kc ca cn cc, e = .returned (.tuple #[.agg #[.int .i64 0, .int .i64 0, .int .i64 (K : Int), .int .i64 (K : Int), .int .i64 ((K + s.length : Nat) : Int), .slice ka 0 kc, .slice ca cn cc, .int .i64 0, .int .i64 0], .int .i64 0]) ∧ tAt w' (treeS (F ++ s)) (ptV (treeS (F ++ s)) (.slice ka 0 kc) (.slice ca cn cc)) ∧ Below w.heap.size w w' := by
  have hp := fparse_any v (F ++ s) w hv hs he
  have ht := h.tree s
  have h0 : ∀ (ks cs : Value), ptV (treeS (F ++ s)) ks cs = .agg #[.int .i64 0, .int .i64 0, .int .i64 (K : Int), .int .i64 (K : Int), .int .i64 ((K + s.length : Nat) : Int), ks, cs, .int .i64 0, .int .i64 0] := fun ks cs => by
    rw [ht]
    rfl
  have h1 : (treeS (F ++ s)).kids.length = 0 := by rw [ht]; rfl
  clear ht
  generalize treeS (F ++ s) = T at h0 h1 hp ⊢
  refine hp.mono ?_
  rintro e w' ⟨ka, kc, ca, cn, cc, rfl, ht, _, hb⟩
  rw [h1] at ht
  exact ⟨ka, kc, ca, cn, cc, by rw [h0, h1], ht, hb⟩
theorem bm_val {F L : List UInt8} {K : Nat} (h : Frt F K L) (s : List UInt8) (ks cs : Value) : ptV (treeS (F ++ s)) ks cs = .agg #[.int .i64 0, .int .i64 0, .int .i64 (K : Int), .int .i64 (K : Int), .int .i64 ((K + s.length : Nat) : Int), ks, cs, .int .i64 0, .int .i64 0] := by
  rw [h.tree s]
  rfl
/-- All that the law asks of such a message, its bytes and its length letters. -/
theorem bm_all {F L : List UInt8} {K : Nat} (h : Frt F K L) (s : List UInt8) (hs : (F ++ s).length ≤ 100000) (hL : L ≠ []) : ∃ (m : List UInt8) (N : Nat), m = F ++ s ∧
    (∀ (v : Value) (w : World), bytesArg w v m → env w → Calls Tryz.prog 8 #[v] w fun e w' => ∃ ka kc ca cn cc, e = .returned (.tuple #[.agg #[.int .i64 0, .int .i64 0, .int .i64 (K : Int), .int .i64 (K : Int), .int .i64 (N : Int), .slice ka 0 kc, .slice ca cn cc, .int .i64 0, .int .i64 0], .int .i64 0]) ∧ tAt w' (treeS m) (ptV (treeS m) (.slice ka 0 kc) (.slice ca cn cc)) ∧ Below w.heap.size w w') ∧
    (∀ (v ks cs : Value) (a1 : Option Addr) (c1 : Nat) (w : World), bytesArg w v m → tAt w (treeS m) (ptV (treeS m) ks cs) → rowOf w (.slice a1 1 c1) [intV 1] → lets w → Calls Tryz.prog 9 #[v, .agg #[.int .i64 0, .int .i64 0, .int .i64 (K : Int), .int .i64 (K : Int), .int .i64 (N : Int), ks, cs, .int .i64 0, .int .i64 0], .slice a1 1 c1] w (bgetPost (telL (undoL L s)) w)) ∧
    (∀ (v ks cs : Value) (a1 : Option Addr) (c1 : Nat) (w : World), bytesArg w v m → tAt w (treeS m) (ptV (treeS m) ks cs) → rowOf w (.slice a1 1 c1) [intV 1] → Calls Tryz.prog 10 #[v, .agg #[.int .i64 0, .int .i64 0, .int .i64 (K : Int), .int .i64 (K : Int), .int .i64 (N : Int), ks, cs, .int .i64 0, .int .i64 0], .agg #[.slice a1 1 c1, .int .i64 0, .slice none 0 0, .bool false, .int .i64 0, .int .i64 0]] w (bytesPost s w)) := by
  refine ⟨F ++ s, K + s.length, rfl, fun v w h1 h2 => bm_parse h s hs v w h1 h2, fun v ks cs a1 c1 w h1 h2 h3 h4 => ?_, fun v ks cs a1 c1 w h1 h2 h3 => ?_⟩
  · have hg := bget_any v (F ++ s) (treeS (F ++ s)) ks cs [1] a1 c1 w h1 hs (tree_okT _) (tree_low _) h2 h3 (by decide) h4
    rw [frt_bin h hL, bm_val h] at hg
    exact hg
  · have hg := fget_any v (F ++ s) (treeS (F ++ s)) ks cs ⟨[1], 0, [], false, 0, 0⟩ a1 none c1 0 w h1 hs (tree_okT _) h2 (spF_bare h3)
    rw [frt_raw h, bm_val h] at hg
    exact hg
theorem cutL_le (w : Nat) (hw : 0 < w) (t : List UInt8) : (cutL w t).length ≤ 3 * t.length + 2 := by
  rw [cut_len w hw]
  have : (t.length + w - 1) / w ≤ t.length := by
    rcases Nat.eq_zero_or_pos t.length with h | h
    · rw [h, Nat.zero_add, Nat.div_eq_of_lt (by omega)]
      omega
    · have h1 : (t.length + w - 1) / w ≤ (t.length * w) / w := Nat.div_le_div_right (by
        have : t.length + w ≤ t.length * w + 1 := by
          obtain ⟨a, ha⟩ : ∃ a, t.length = a + 1 := ⟨t.length - 1, by omega⟩
          obtain ⟨b, hb⟩ : ∃ b, w = b + 1 := ⟨w - 1, by omega⟩
          rw [ha, hb, Nat.mul_add, Nat.add_mul]
          have := Nat.zero_le (a * b)
          omega
        omega)
      rw [Nat.mul_div_cancel _ hw] at h1
      exact h1
  omega
theorem lineS_le (w : Int) (t : List UInt8) : (lineS w t).length ≤ 3 * t.length + 2 := by
  unfold lineS
  split
  · exact cutL_le _ (by omega) t
  · omega
theorem encS_le (l : List UInt8) (h : l.length ≤ 300) : (encS l).length ≤ 400 := by
  rw [enc_len]
  omega
end Go.Proofs.YteallnjbpikhhaaGreatDoor
