/- The law TreeInner. -/
import Derived.Test.YtfgppamhbchhcaaGreatDoorGbTrJ
import Derived.Test.YtfgppamhbchhcaaGreatDoorGb34
import Derived.Test.YtfgppamhbchhcaaGreatDoorGbTsD
import Derived.Test.YtfgppamhbchhcaaGreatDoorGb37
import Derived.Test.YtfgppamhbchhcaaGreatDoorApp
import Derived.Lib.AppendStr
namespace Go.Proofs.YtfgppamhbchhcaaGreatDoor
open Go Go.RowKit

def frB : ByteArray := ⟨#[88, 58, 32, 121, 13, 10, 67, 111, 110, 116, 101, 110, 116, 45, 84, 121, 112, 101, 58, 32, 109, 101, 115, 115, 97, 103, 101, 47, 114, 102, 99, 56, 50, 50, 13, 10, 13, 10]⟩
theorem frB_list : frB.data.toList = frH := rfl
theorem strCells_frB (s : ByteArray) : Lib.strCells s = s.data.toList.map byteV := rfl
theorem below_nw (W : World) (o : Obj) : Below W.heap.size W (W.alloc o) := (Below.refl _ _).alloc (Nat.le_refl _) _
theorem treeAt_bl {S : Nat → Prop} {w w' : World} {t : Tr} {u : Value} (h : treeAt S w t u) (hb : Below w.heap.size w w') : treeAt S w' t u := treeAt.keep (fun q hS hq => ⟨hb.block q hq, hS⟩) _ _ h
set_option maxRecDepth 100000 in
set_option maxHeartbeats 16000000 in
theorem treeInner_any (v : Value) (l : List UInt8) (dp : UInt8) (w : World) (hv : bytesArg w v l) (he : env w) :
    Calls Tryz.prog 4 #[v, .int .u8 (dp.toNat : Int)] w fun e w' => e = .returned (.bool true) ∧ Below w.heap.size w w' := by
  have HV := Lib.hid hv
  have HE := Lib.hid he
  have HAw := Lib.hid (awake_any w he)
  obtain ⟨ao, cap, rfl, hc, hm, hs⟩ := hv
  have HS : Hid (sliceAt w ao l) := hs
  unfold maxLen at hm
  obtain ⟨i0, hi, hz0, hz1, hz2⟩ := info_parts Tryz.infoU8
  have HI0 := Lib.hid hi
  have HZ0 := Lib.hid hz0
  have HZ1 := Lib.hid hz1
  have HZ2 := Lib.hid hz2
  clear hs he hi hz0 hz1 hz2
  by_cases hl : 1000 < l.length
  · go_enter Tryz.func4, Tryz.ntmps4
    go_wp2_with fail
    with_reducible refine (HAw.out).mono ?_
    rintro e w1 ⟨rfl, hb1⟩
    have HB1 := Lib.hid hb1
    clear hb1
    go_wp2
    go_ret
    exact ⟨rfl, HB1.out⟩
  · obtain ⟨l1, hl1⟩ : ∃ l1, l1 = frH ++ l := ⟨_, rfl⟩
    have hlen1 : l1.length = 38 + l.length := by rw [hl1, List.length_append]; rfl
    have hin := inner_tree l
    have hmv := inner_moved l
    rw [← hl1] at hin hmv
    have hbd1 := tree_bd l1
    have hct1 := tree_count l1
    obtain ⟨T1, hT1⟩ : ∃ T1, T1 = (entS l1 31 (38, 38 + l.length) false 2).1 := ⟨_, rfl⟩
    rw [← hT1] at hin
    obtain ⟨L, hL⟩ : ∃ L, L = 38 + l.length := ⟨_, rfl⟩
    rw [← hL] at hin hmv
    have hPk : Hid (∀ W v, bytesArg W v l1 → env W → Calls Tryz.prog 9 #[v] W fun e w' => ∃ ka kc ca cc, e = .returned (.tuple #[.agg #[.int .i64 2, .int .i64 0, .int .i64 38, .int .i64 38, .int .i64 (L : Int), .slice ka 1 kc, .slice ca 0 cc, .int .i64 0, .int .i64 0], .int .i64 0]) ∧ treeAt (fun k => W.heap.size ≤ k) w' (.mk 2 (0, 38) (38, L) [T1] [] (0, 0)) (.agg #[.int .i64 2, .int .i64 0, .int .i64 38, .int .i64 38, .int .i64 (L : Int), .slice ka 1 kc, .slice ca 0 cc, .int .i64 0, .int .i64 0]) ∧ Below W.heap.size W w') := fun W v h1 h2 => by
      have h3 := treeParse_any v l1 W h1 (by omega) h2
      unfold treePost at h3
      rw [hin] at h3
      refine h3.mono ?_
      rintro e w' ⟨ka, kn, kc, ca, cn, cc, he, ht, hb⟩
      obtain rfl : kn = 1 := kids_len ht
      obtain ⟨ka', kn', kc', ca', cn', cc', us, hu, hcu, ho, hk⟩ := treeAt_open ht
      simp only [Value.agg.injEq, Array.mk.injEq, List.cons.injEq, Value.slice.injEq] at hu
      obtain ⟨-, -, -, -, -, ⟨rfl, rfl, rfl⟩, ⟨rfl, rfl, rfl⟩, -⟩ := hu
      obtain rfl : cn = 0 := own_len hcu
      exact ⟨ka, kc, ca, cc, he, ht, hb⟩
    have HPq := Lib.hid (fun W h1 h2 => treeParse_any (.slice ao l.length cap) l W h1 (by omega) h2)
    unfold treePost at HPq
    have hbdq := tree_bd l
    have hctq := tree_count l
    have hdpq := tree_deep l
    obtain ⟨Tq, hTq⟩ : ∃ Tq, Tq = treeS l := ⟨_, rfl⟩
    rw [← hTq] at HPq hbdq hctq hdpq hmv
    have hT1b : bdT l1.length T1 := by
      rw [hin] at hbd1
      unfold bdT bdK at hbd1
      exact hbd1.2.1
    have hT1c : countT T1 ≤ 1000 := by
      rw [hin] at hct1
      have e1 : countT (Tr.mk 2 (0, 38) (38, L) [T1] [] (0, 0)) = 1 + (countT T1 + 0) := rfl
      omega
    have HMv : Hid (deepT Tq ≤ 30 → countT Tq ≤ 900 → T1 = mvT 38 Tq) := fun h1 h2 => by
      have h3 := hmv h1 h2
      rw [hin] at h3
      injection h3 with _ _ _ h4
      injection h4
    have HBq := Lib.hid hbdq
    have HB1t := Lib.hid hT1b
    have HL1 := Lib.hid hl1
    have HLen1 := Lib.hid hlen1
    have hlen1b : l1.length ≤ 1038 := by omega
    have HLL := Lib.hid hL
    clear hin hmv hbd1 hct1 hT1 hTq hbdq hT1b hl1 hlen1 hL
    go_enter Tryz.func4, Tryz.ntmps4
    go_wp2_with fail
    with_reducible refine (HAw.out).mono ?_
    rintro e w1 ⟨rfl, hb1⟩
    have HB1 := Lib.hid hb1
    clear hb1
    go_wp2_with (at_builtin; refine Lib.wpList_append_own_string _ rfl _ _ 24 9 rfl w1.heap.size 5 i0 Tryz.underlying24 Tryz.underlying9 HI0.out HZ0.out HZ1.out HZ2.out _ _ _ rfl (World.ownsRow_nil _ _ _ _) (frB) rfl ?a1 ?b1 ?c1 ?_)
    case a1 => unfold maxLen; show 0 + 38 ≤ _; omega
    case b1 => show 0 + 38 ≤ _; omega
    case c1 => exact Nat.le_refl _
    intro v2 w2 hown2 hgrow2 _
    have HO2 : Hid (w2.ownsRow w1.heap.size 5 1 v2 38 (frH.map byteV)) := own_cast hown2 rfl (by rw [strCells_frB, frB_list])
    have HB2 : Hid (Below w1.heap.size w1 w2) := (Below.refl _ _).grown hgrow2 (Nat.le_refl _) (fun q hq => by cases hq)
    clear hown2 hgrow2
    go_wp2_with (at_builtin; refine wpList_append_bytes rfl _ _ 24 rfl w1.heap.size 5 i0 Tryz.underlying24 HI0.out HZ0.out HZ1.out HZ2.out _ _ _ rfl (HO2.out) ao cap l rfl (HS.out.below (HB1.out.trans (HB2.out.mono HB1.out.size))) ?a2 ?c2 ?_)
    case a2 => omega
    case c2 => exact HB2.out.size
    intro v3 w3 hown3 hgrow3
    have HO3 : Hid (w3.ownsRow w1.heap.size 5 1 v3 l1.length (l1.map byteV)) := own_cast hown3 (by have := HLen1.out; omega) (by rw [HL1.out, List.map_append])
    have HB3 : Hid (Below w1.heap.size w1 w3) := HB2.out.grown hgrow3 HB2.out.size (fun q hq => (HO2.out.lt q hq).1)
    have HAg := Lib.hid (bytesArg_owned HO3.out)
    have HB3w := Lib.hid (HB1.out.trans (HB3.out.mono HB1.out.size))
    clear hown3 hgrow3
    have HAg2 := HAg.out
    obtain ⟨ao1, cap1, rfl, hcp1, hmx1, _⟩ := HAg2
    go_wp2_with fail
    with_reducible refine (hPk.out _ _ HAg.out (HE.out.below HB3w.out)).mono ?_
    rintro e w5 ⟨ka, kc, ca, cc, rfl, ht5, hb5⟩
    have HB5 := Lib.hid (HB3w.out.trans (hb5.mono HB3w.out.size))
    have HT5 := Lib.hid (treeAt.keep (S' := fun k => k < w5.heap.size) (W' := w5) (fun q _ hq => ⟨rfl, hq⟩) _ _ ht5)
    have hbX5 := below_nw w5 (.cells #[.int .i64 2, .int .i64 0, .int .i64 38, .int .i64 38, .int .i64 (L : Int), .slice ka 1 kc, .slice ca 0 cc, .int .i64 0, .int .i64 0] 30)
    have HBX5 := Lib.hid hbX5
    have HLx5 := Lib.hid (heap_alloc_new w5 (.cells #[.int .i64 2, .int .i64 0, .int .i64 38, .int .i64 38, .int .i64 (L : Int), .slice ka 1 kc, .slice ca 0 cc, .int .i64 0, .int .i64 0] 30))
    clear ht5 hb5 hbX5 hPk
    go_wp2_with fail
    with_reducible refine (HPq.out _ ?h1 ?h2).mono ?_
    case h1 => exact HV.out.below (HB5.out.trans (HBX5.out.mono HB5.out.size))
    case h2 => exact HE.out.below (HB5.out.trans (HBX5.out.mono HB5.out.size))
    rintro e w7 ⟨ya, yn, yc, za, zn, zc, rfl, ht7, hb7⟩
    have HB57 := Lib.hid (HBX5.out.trans (hb7.mono HBX5.out.size))
    have HT7 := Lib.hid (treeAt.keep (S' := fun k => k < w7.heap.size) (W' := w7) (fun q _ hq => ⟨rfl, hq⟩) _ _ ht7)
    have HP7 : Hid (w7.heap[w5.heap.size]? = some (.cells #[.int .i64 2, .int .i64 0, .int .i64 38, .int .i64 38, .int .i64 (L : Int), .slice ka 1 kc, .slice ca 0 cc, .int .i64 0, .int .i64 0] 30 (0, 0))) := (hb7.block _ (Array.getElem?_eq_some_iff.1 HLx5.out).1).trans HLx5.out
    have hbX7 := below_nw w7 (.cells #[.int .i64 (Tq.kind : Int), .int .i64 (Tq.hd.1 : Int), .int .i64 (Tq.hd.2 : Int), .int .i64 (Tq.bd.1 : Int), .int .i64 (Tq.bd.2 : Int), .slice ya yn yc, .slice za zn zc, .int .i64 (Tq.e.1 : Int), .int .i64 (Tq.e.2 : Int)] 30)
    have HBX7 := Lib.hid hbX7
    have HLx7 := Lib.hid (heap_alloc_new w7 (.cells #[.int .i64 (Tq.kind : Int), .int .i64 (Tq.hd.1 : Int), .int .i64 (Tq.hd.2 : Int), .int .i64 (Tq.bd.1 : Int), .int .i64 (Tq.bd.2 : Int), .slice ya yn yc, .slice za zn zc, .int .i64 (Tq.e.1 : Int), .int .i64 (Tq.e.2 : Int)] 30))
    obtain ⟨X, hX⟩ : ∃ X, X = w7.alloc (.cells #[.int .i64 (Tq.kind : Int), .int .i64 (Tq.hd.1 : Int), .int .i64 (Tq.hd.2 : Int), .int .i64 (Tq.bd.1 : Int), .int .i64 (Tq.bd.2 : Int), .slice ya yn yc, .slice za zn zc, .int .i64 (Tq.e.1 : Int), .int .i64 (Tq.e.2 : Int)] 30) := ⟨_, rfl⟩
    rw [← hX] at HBX7 HLx7
    have HP8 : Hid (X.heap[w5.heap.size]? = some (.cells #[.int .i64 2, .int .i64 0, .int .i64 38, .int .i64 38, .int .i64 (L : Int), .slice ka 1 kc, .slice ca 0 cc, .int .i64 0, .int .i64 0] 30 (0, 0))) := (HBX7.out.block _ (Array.getElem?_eq_some_iff.1 HP7.out).1).trans HP7.out
    have HDp := Lib.hid (deep_any _ Tq (Nat.le_refl _) _ X _ (treeAt_bl ht7 (hX ▸ hbX7)) (by omega) (by omega))
    have HCn := Lib.hid (fun W hb => count_any _ Tq (Nat.le_refl _) _ W _ (treeAt_bl (treeAt_bl ht7 (hX ▸ hbX7)) hb) (by omega))
    have HX := Lib.hid hX
    clear ht7 hb7 hbX7 HPq hX
    obtain ⟨ka', kn', kc', ca', cn', cc', us, hu, hcu, ho, hk⟩ := treeAt_open HT5.out
    simp only [Value.agg.injEq, Array.mk.injEq, List.cons.injEq, Value.slice.injEq] at hu
    obtain ⟨-, -, -, -, -, ⟨rfl, rfl, rfl⟩, -⟩ := hu
    obtain ⟨-, -, hkm, hkat⟩ := kids_at ho hk
    obtain ⟨g, xa, xn, xc, xa2, xn2, xc2, rfl, hg, -, h9, htk⟩ := hkat 0 (by show 0 < 1; decide)
    have h9' : nineAt w5 g 0 T1 (.slice xa xn xc) (.slice xa2 xn2 xc2) := h9
    have htk' : treeAt (fun k => k < w5.heap.size) w5 T1 (.agg #[.int .i64 (T1.kind : Int), .int .i64 (T1.hd.1 : Int), .int .i64 (T1.hd.2 : Int), .int .i64 (T1.bd.1 : Int), .int .i64 (T1.bd.2 : Int), .slice xa xn xc, .slice xa2 xn2 xc2, .int .i64 (T1.e.1 : Int), .int .i64 (T1.e.2 : Int)]) := htk
    have H9 := Lib.hid h9'
    have HTk := Lib.hid htk'
    clear hcu ho hk hkat h9 htk h9' htk'
    unfold maxLen at hkm
    go_upto_region 12 with fail
    rw [← HX.out]
    have hp8 := HP8.out
    have hq8 := HLx7.out
    have p0 : X.cell? ⟨w5.heap.size, 0, none⟩ = some (.int .i64 2) := by simp [World.cell?, hp8]
    have p1 : X.cell? ⟨w5.heap.size, 1, none⟩ = some (.int .i64 0) := by simp [World.cell?, hp8]
    have p2 : X.cell? ⟨w5.heap.size, 2, none⟩ = some (.int .i64 38) := by simp [World.cell?, hp8]
    have p3 : X.cell? ⟨w5.heap.size, 3, none⟩ = some (.int .i64 38) := by simp [World.cell?, hp8]
    have p4 : X.cell? ⟨w5.heap.size, 4, none⟩ = some (.int .i64 (L : Int)) := by simp [World.cell?, hp8]
    have p5 : X.cell? ⟨w5.heap.size, 5, none⟩ = some (.slice (some ⟨g, 0, none⟩) 1 kc) := by simp [World.cell?, hp8]
    have p6 : X.cell? ⟨w5.heap.size, 6, none⟩ = some (.slice ca 0 cc) := by simp [World.cell?, hp8]
    have p7 : X.cell? ⟨w5.heap.size, 7, none⟩ = some (.int .i64 0) := by simp [World.cell?, hp8]
    have p8 : X.cell? ⟨w5.heap.size, 8, none⟩ = some (.int .i64 0) := by simp [World.cell?, hp8]
    have q0 : X.cell? ⟨w7.heap.size, 0, none⟩ = some (.int .i64 (Tq.kind : Int)) := by simp [World.cell?, hq8]
    have q1 : X.cell? ⟨w7.heap.size, 1, none⟩ = some (.int .i64 (Tq.hd.1 : Int)) := by simp [World.cell?, hq8]
    have q2 : X.cell? ⟨w7.heap.size, 2, none⟩ = some (.int .i64 (Tq.hd.2 : Int)) := by simp [World.cell?, hq8]
    have q3 : X.cell? ⟨w7.heap.size, 3, none⟩ = some (.int .i64 (Tq.bd.1 : Int)) := by simp [World.cell?, hq8]
    have q4 : X.cell? ⟨w7.heap.size, 4, none⟩ = some (.int .i64 (Tq.bd.2 : Int)) := by simp [World.cell?, hq8]
    have q5 : X.cell? ⟨w7.heap.size, 5, none⟩ = some (.slice ya yn yc) := by simp [World.cell?, hq8]
    have q6 : X.cell? ⟨w7.heap.size, 6, none⟩ = some (.slice za zn zc) := by simp [World.cell?, hq8]
    have q7 : X.cell? ⟨w7.heap.size, 7, none⟩ = some (.int .i64 (Tq.e.1 : Int)) := by simp [World.cell?, hq8]
    have q8 : X.cell? ⟨w7.heap.size, 8, none⟩ = some (.int .i64 (Tq.e.2 : Int)) := by simp [World.cell?, hq8]
    clear hp8 hq8
    go_wp2_with fail
    with_reducible refine (HDp.out).mono ?_
    rintro e w9 ⟨rfl, hb9⟩
    have HB9 := Lib.hid hb9
    have HP9 : Hid (w9.heap[w5.heap.size]? = some (.cells #[.int .i64 2, .int .i64 0, .int .i64 38, .int .i64 38, .int .i64 (L : Int), .slice (some ⟨g, 0, none⟩) 1 kc, .slice ca 0 cc, .int .i64 0, .int .i64 0] 30 (0, 0))) := (hb9.block _ (Array.getElem?_eq_some_iff.1 HP8.out).1).trans HP8.out
    have HQ9 : Hid (w9.heap[w7.heap.size]? = some (.cells #[.int .i64 (Tq.kind : Int), .int .i64 (Tq.hd.1 : Int), .int .i64 (Tq.hd.2 : Int), .int .i64 (Tq.bd.1 : Int), .int .i64 (Tq.bd.2 : Int), .slice ya yn yc, .slice za zn zc, .int .i64 (Tq.e.1 : Int), .int .i64 (Tq.e.2 : Int)] 30 (0, 0))) := (hb9.block _ (Array.getElem?_eq_some_iff.1 HLx7.out).1).trans HLx7.out
    have HBall : Hid (Below w.heap.size w X) := (HB5.out.trans (HB57.out.mono HB5.out.size)).trans (HBX7.out.mono (HB5.out.trans (HB57.out.mono HB5.out.size)).size)
    clear hb9 HDp p0 p1 p2 p3 p4 p5 p6 p7 p8 q0 q1 q2 q3 q4 q5 q6 q7 q8
    obtain ⟨dT, hdT⟩ : ∃ dT, dT = deepT Tq := ⟨_, rfl⟩
    obtain ⟨cT, hcT⟩ : ∃ cT, cT = countT Tq := ⟨_, rfl⟩
    rw [← hdT] at hdpq HMv ⊢
    rw [← hcT] at HCn hctq HMv
    have HcT := Lib.hid hcT
    clear hdT hcT
    by_cases hd30 : 30 < dT
    · have hd30' : (30 : Int) < (dT : Int) := by omega
      go_wp2_with fail
      go_ret
      exact ⟨rfl, HBall.out.trans (HB9.out.mono HBall.out.size)⟩
    · have hd30' : ¬ (30 : Int) < (dT : Int) := by omega
      have hq9 := HQ9.out
      have q0 : w9.cell? ⟨w7.heap.size, 0, none⟩ = some (.int .i64 (Tq.kind : Int)) := by simp [World.cell?, hq9]
      have q1 : w9.cell? ⟨w7.heap.size, 1, none⟩ = some (.int .i64 (Tq.hd.1 : Int)) := by simp [World.cell?, hq9]
      have q2 : w9.cell? ⟨w7.heap.size, 2, none⟩ = some (.int .i64 (Tq.hd.2 : Int)) := by simp [World.cell?, hq9]
      have q3 : w9.cell? ⟨w7.heap.size, 3, none⟩ = some (.int .i64 (Tq.bd.1 : Int)) := by simp [World.cell?, hq9]
      have q4 : w9.cell? ⟨w7.heap.size, 4, none⟩ = some (.int .i64 (Tq.bd.2 : Int)) := by simp [World.cell?, hq9]
      have q5 : w9.cell? ⟨w7.heap.size, 5, none⟩ = some (.slice ya yn yc) := by simp [World.cell?, hq9]
      have q6 : w9.cell? ⟨w7.heap.size, 6, none⟩ = some (.slice za zn zc) := by simp [World.cell?, hq9]
      have q7 : w9.cell? ⟨w7.heap.size, 7, none⟩ = some (.int .i64 (Tq.e.1 : Int)) := by simp [World.cell?, hq9]
      have q8 : w9.cell? ⟨w7.heap.size, 8, none⟩ = some (.int .i64 (Tq.e.2 : Int)) := by simp [World.cell?, hq9]
      clear hq9
      go_wp2_with fail
      with_reducible refine (HCn.out _ HB9.out).mono ?_
      rintro e w10 ⟨rfl, hb10⟩
      have HB10 := Lib.hid (HB9.out.trans (hb10.mono HB9.out.size))
      have HP10 : Hid (w10.heap[w5.heap.size]? = some (.cells #[.int .i64 2, .int .i64 0, .int .i64 38, .int .i64 38, .int .i64 (L : Int), .slice (some ⟨g, 0, none⟩) 1 kc, .slice ca 0 cc, .int .i64 0, .int .i64 0] 30 (0, 0))) := (hb10.block _ (Array.getElem?_eq_some_iff.1 HP9.out).1).trans HP9.out
      have HQ10 : Hid (w10.heap[w7.heap.size]? = some (.cells #[.int .i64 (Tq.kind : Int), .int .i64 (Tq.hd.1 : Int), .int .i64 (Tq.hd.2 : Int), .int .i64 (Tq.bd.1 : Int), .int .i64 (Tq.bd.2 : Int), .slice ya yn yc, .slice za zn zc, .int .i64 (Tq.e.1 : Int), .int .i64 (Tq.e.2 : Int)] 30 (0, 0))) := (hb10.block _ (Array.getElem?_eq_some_iff.1 HQ9.out).1).trans HQ9.out
      clear hb10 HCn q0 q1 q2 q3 q4 q5 q6 q7 q8
      by_cases hc900 : 900 < cT
      · have hc900' : (900 : Int) < (cT : Int) := by omega
        go_wp2_with fail
        go_ret
        exact ⟨rfl, HBall.out.trans (HB10.out.mono HBall.out.size)⟩
      · have hc900' : ¬ (900 : Int) < (cT : Int) := by omega
        have HEq := Lib.hid (HMv.out (by omega) (by omega))
        have HB5x : Hid (Below w5.heap.size w5 w10) := (HB57.out.trans (HBX7.out.mono HB57.out.size)).trans (HB10.out.mono (HB57.out.trans (HBX7.out.mono HB57.out.size)).size)
        have HB7x : Hid (Below w7.heap.size w7 w10) := HBX7.out.trans (HB10.out.mono HBX7.out.size)
        have H910 := Lib.hid (nine_open (H9.out.block (HB5x.out.block g hg)))
        have hs5 := HB5x.out.size
        have hs7 := HB7x.out.size
        have HTk10 : Hid (treeAt (fun k => k < w10.heap.size) w10 T1 (.agg #[.int .i64 (T1.kind : Int), .int .i64 (T1.hd.1 : Int), .int .i64 (T1.hd.2 : Int), .int .i64 (T1.bd.1 : Int), .int .i64 (T1.bd.2 : Int), .slice xa xn xc, .slice xa2 xn2 xc2, .int .i64 (T1.e.1 : Int), .int .i64 (T1.e.2 : Int)])) := treeAt.keep (fun q (hq : q < w5.heap.size) _ => ⟨HB5x.out.block q hq, by show q < w10.heap.size; omega⟩) _ _ HTk.out
        have HTq10 : Hid (treeAt (fun k => k < w10.heap.size) w10 Tq (.agg #[.int .i64 (Tq.kind : Int), .int .i64 (Tq.hd.1 : Int), .int .i64 (Tq.hd.2 : Int), .int .i64 (Tq.bd.1 : Int), .int .i64 (Tq.bd.2 : Int), .slice ya yn yc, .slice za zn zc, .int .i64 (Tq.e.1 : Int), .int .i64 (Tq.e.2 : Int)])) := treeAt.keep (fun q (hq : q < w7.heap.size) _ => ⟨HB7x.out.block q hq, by show q < w10.heap.size; omega⟩) _ _ HT7.out
        have HOf1 : Hid (∀ W, Below w10.heap.size w10 W → Calls Tryz.prog 13 #[.agg #[.int .i64 (T1.kind : Int), .int .i64 (T1.hd.1 : Int), .int .i64 (T1.hd.2 : Int), .int .i64 (T1.bd.1 : Int), .int .i64 (T1.bd.2 : Int), .slice xa xn xc, .slice xa2 xn2 xc2, .int .i64 (T1.e.1 : Int), .int .i64 (T1.e.2 : Int)]] W (ofPost w10.heap.size T1 W)) := fun W hb => treeOf_any w10.heap.size _ T1 (Nat.le_refl _) (by omega) W _ hb.size (treeAt.keep (fun q hq hz => ⟨hb.block q hz, hq⟩) _ _ HTk10.out)
        have HOf2 : Hid (∀ W, Below w10.heap.size w10 W → Calls Tryz.prog 13 #[.agg #[.int .i64 (Tq.kind : Int), .int .i64 (Tq.hd.1 : Int), .int .i64 (Tq.hd.2 : Int), .int .i64 (Tq.bd.1 : Int), .int .i64 (Tq.bd.2 : Int), .slice ya yn yc, .slice za zn zc, .int .i64 (Tq.e.1 : Int), .int .i64 (Tq.e.2 : Int)]] W (ofPost w10.heap.size Tq W)) := fun W hb => treeOf_any w10.heap.size _ Tq (Nat.le_refl _) (by have := HcT.out; omega) W _ hb.size (treeAt.keep (fun q hq hz => ⟨hb.block q hz, hq⟩) _ _ HTq10.out)
        have hk0 : Below w10.heap.size w10 w10.drew := (Below.refl _ _).drew
        have HSp : Hid (∀ W, Below w10.heap.size w10 W → (W.cell? ⟨w5.heap.size, 5, none⟩ = some (.slice (some ⟨g, 0, none⟩) 1 kc) ∧ W.cell? ⟨g, 0, none⟩ = some (.int .i64 (T1.kind : Int)) ∧ W.cell? ⟨g, 1, none⟩ = some (.int .i64 (T1.hd.1 : Int)) ∧ W.cell? ⟨g, 2, none⟩ = some (.int .i64 (T1.hd.2 : Int)) ∧ W.cell? ⟨g, 3, none⟩ = some (.int .i64 (T1.bd.1 : Int)) ∧ W.cell? ⟨g, 4, none⟩ = some (.int .i64 (T1.bd.2 : Int)) ∧ W.cell? ⟨g, 5, none⟩ = some (.slice xa xn xc) ∧ W.cell? ⟨g, 6, none⟩ = some (.slice xa2 xn2 xc2) ∧ W.cell? ⟨g, 7, none⟩ = some (.int .i64 (T1.e.1 : Int)) ∧ W.cell? ⟨g, 8, none⟩ = some (.int .i64 (T1.e.2 : Int)) ∧ W.cell? ⟨w7.heap.size, 0, none⟩ = some (.int .i64 (Tq.kind : Int)) ∧ W.cell? ⟨w7.heap.size, 1, none⟩ = some (.int .i64 (Tq.hd.1 : Int)) ∧ W.cell? ⟨w7.heap.size, 2, none⟩ = some (.int .i64 (Tq.hd.2 : Int)) ∧ W.cell? ⟨w7.heap.size, 3, none⟩ = some (.int .i64 (Tq.bd.1 : Int)) ∧ W.cell? ⟨w7.heap.size, 4, none⟩ = some (.int .i64 (Tq.bd.2 : Int)) ∧ W.cell? ⟨w7.heap.size, 5, none⟩ = some (.slice ya yn yc) ∧ W.cell? ⟨w7.heap.size, 6, none⟩ = some (.slice za zn zc) ∧ W.cell? ⟨w7.heap.size, 7, none⟩ = some (.int .i64 (Tq.e.1 : Int)) ∧ W.cell? ⟨w7.heap.size, 8, none⟩ = some (.int .i64 (Tq.e.2 : Int)))) := fun W hb => by
          have o1 := (hb.block _ (Array.getElem?_eq_some_iff.1 HP10.out).1).trans HP10.out
          have o2 := (hb.block _ (Array.getElem?_eq_some_iff.1 HQ10.out).1).trans HQ10.out
          have o3 := hb.block g (by omega)
          obtain ⟨p0, p1, p2, p3, p4, p5, p6, p7, p8⟩ := H910.out
          simp only [Nat.zero_mul, Nat.zero_add] at p0 p1 p2 p3 p4 p5 p6 p7 p8
          refine ⟨by simp [World.cell?, o1], ?_⟩
          refine ⟨(World.cell?_of_block (a := ⟨g, 0, none⟩) o3).trans p0, (World.cell?_of_block (a := ⟨g, 1, none⟩) o3).trans p1, (World.cell?_of_block (a := ⟨g, 2, none⟩) o3).trans p2, (World.cell?_of_block (a := ⟨g, 3, none⟩) o3).trans p3, (World.cell?_of_block (a := ⟨g, 4, none⟩) o3).trans p4,
            (World.cell?_of_block (a := ⟨g, 5, none⟩) o3).trans p5, (World.cell?_of_block (a := ⟨g, 6, none⟩) o3).trans p6, (World.cell?_of_block (a := ⟨g, 7, none⟩) o3).trans p7, (World.cell?_of_block (a := ⟨g, 8, none⟩) o3).trans p8, ?_⟩
          simp [World.cell?, o2]
        unfold ofPost at HOf1 HOf2
        go_upto_region 16 with fail
        refine wp_region_last (fun W' => W'.cell? ⟨w5.heap.size, 5, none⟩ = some (.slice (some ⟨g, 0, none⟩) 1 kc) ∧ W'.cell? ⟨g, 0, none⟩ = some (.int .i64 (T1.kind : Int)) ∧ W'.cell? ⟨g, 1, none⟩ = some (.int .i64 (T1.hd.1 : Int)) ∧ W'.cell? ⟨g, 2, none⟩ = some (.int .i64 (T1.hd.2 : Int)) ∧ W'.cell? ⟨g, 3, none⟩ = some (.int .i64 (T1.bd.1 : Int)) ∧ W'.cell? ⟨g, 4, none⟩ = some (.int .i64 (T1.bd.2 : Int)) ∧ W'.cell? ⟨g, 5, none⟩ = some (.slice xa xn xc) ∧ W'.cell? ⟨g, 6, none⟩ = some (.slice xa2 xn2 xc2) ∧ W'.cell? ⟨g, 7, none⟩ = some (.int .i64 (T1.e.1 : Int)) ∧ W'.cell? ⟨g, 8, none⟩ = some (.int .i64 (T1.e.2 : Int)) ∧ W'.cell? ⟨w7.heap.size, 0, none⟩ = some (.int .i64 (Tq.kind : Int)) ∧ W'.cell? ⟨w7.heap.size, 1, none⟩ = some (.int .i64 (Tq.hd.1 : Int)) ∧ W'.cell? ⟨w7.heap.size, 2, none⟩ = some (.int .i64 (Tq.hd.2 : Int)) ∧ W'.cell? ⟨w7.heap.size, 3, none⟩ = some (.int .i64 (Tq.bd.1 : Int)) ∧ W'.cell? ⟨w7.heap.size, 4, none⟩ = some (.int .i64 (Tq.bd.2 : Int)) ∧ W'.cell? ⟨w7.heap.size, 5, none⟩ = some (.slice ya yn yc) ∧ W'.cell? ⟨w7.heap.size, 6, none⟩ = some (.slice za zn zc) ∧ W'.cell? ⟨w7.heap.size, 7, none⟩ = some (.int .i64 (Tq.e.1 : Int)) ∧ W'.cell? ⟨w7.heap.size, 8, none⟩ = some (.int .i64 (Tq.e.2 : Int))) 11 (by kernel_rfl) ?_
        have hS0 := HSp.out _ hk0
        refine wpAnyN_takeE (i := 0) rfl (by kernel_rfl) (by kernel_rfl) (by kernel_rfl) (by kernel_rfl) (fun _ _ _ _ h => h) rfl hS0 ?_
        apply Exists.intro
        refine ⟨fun w hSw => ?_, ?_⟩
        · obtain ⟨_, _, _, _, _, _, _, _, _, _, _, _, _, _, _, _, _, _, _⟩ := hSw
          go_simp
          try rfl
        try simp only [Act.put]
        try simp only [List.setIfInBounds_toArray]
        try simp only [List.set_cons_succ]
        try simp only [List.set_cons_zero]
        refine wpAnyN_takeE (i := 1) rfl (by kernel_rfl) (by kernel_rfl) (by kernel_rfl) (by kernel_rfl) (fun _ _ _ _ h => h) rfl hS0 ?_
        apply Exists.intro
        refine ⟨fun w hSw => ?_, ?_⟩
        · obtain ⟨_, _, _, _, _, _, _, _, _, _, _, _, _, _, _, _, _, _, _⟩ := hSw
          go_simp
          try rfl
        try simp only [Act.put]
        try simp only [List.setIfInBounds_toArray]
        try simp only [List.set_cons_succ]
        try simp only [List.set_cons_zero]
        refine wpAnyN_takeE (i := 2) rfl (by kernel_rfl) (by kernel_rfl) (by kernel_rfl) (by kernel_rfl) (fun _ _ _ _ h => h) rfl hS0 ?_
        apply Exists.intro
        refine ⟨fun w hSw => ?_, ?_⟩
        · obtain ⟨_, _, _, _, _, _, _, _, _, _, _, _, _, _, _, _, _, _, _⟩ := hSw
          go_simp
          try rfl
        try simp only [Act.put]
        try simp only [List.setIfInBounds_toArray]
        try simp only [List.set_cons_succ]
        try simp only [List.set_cons_zero]
        refine wpAnyN_takeE (i := 3) rfl (by kernel_rfl) (by kernel_rfl) (by kernel_rfl) (by kernel_rfl) (fun _ _ _ _ h => h) rfl hS0 ?_
        apply Exists.intro
        refine ⟨fun w hSw => ?_, ?_⟩
        · obtain ⟨_, _, _, _, _, _, _, _, _, _, _, _, _, _, _, _, _, _, _⟩ := hSw
          go_simp
          try rfl
        try simp only [Act.put]
        try simp only [List.setIfInBounds_toArray]
        try simp only [List.set_cons_succ]
        try simp only [List.set_cons_zero]
        refine wpAnyN_takeE (i := 5) rfl (by kernel_rfl) (by kernel_rfl) (by kernel_rfl) (by kernel_rfl) (fun _ _ _ _ h => h) rfl hS0 ?_
        apply Exists.intro
        refine ⟨fun w hSw => ?_, ?_⟩
        · obtain ⟨_, _, _, _, _, _, _, _, _, _, _, _, _, _, _, _, _, _, _⟩ := hSw
          go_simp
          try rfl
        try simp only [Act.put]
        try simp only [List.setIfInBounds_toArray]
        try simp only [List.set_cons_succ]
        try simp only [List.set_cons_zero]
        refine wpAnyN_takeE (i := 7) rfl (by kernel_rfl) (by kernel_rfl) (by kernel_rfl) (by kernel_rfl) (fun _ _ _ _ h => h) rfl hS0 ?_
        apply Exists.intro
        refine ⟨fun w hSw => ?_, ?_⟩
        · obtain ⟨_, _, _, _, _, _, _, _, _, _, _, _, _, _, _, _, _, _, _⟩ := hSw
          go_simp
          try rfl
        try simp only [Act.put]
        try simp only [List.setIfInBounds_toArray]
        try simp only [List.set_cons_succ]
        try simp only [List.set_cons_zero]
        refine wpAnyN_takeE (i := 8) rfl (by kernel_rfl) (by kernel_rfl) (by kernel_rfl) (by kernel_rfl) (fun _ _ _ _ h => h) rfl hS0 ?_
        apply Exists.intro
        refine ⟨fun w hSw => ?_, ?_⟩
        · obtain ⟨_, _, _, _, _, _, _, _, _, _, _, _, _, _, _, _, _, _, _⟩ := hSw
          go_simp
          try rfl
        try simp only [Act.put]
        try simp only [List.setIfInBounds_toArray]
        try simp only [List.set_cons_succ]
        try simp only [List.set_cons_zero]
        refine wpAnyN_one (i := 4) (by kernel_rfl) rfl (fun K hK => ?_)
        go_simp
        go_at_call 13
        with_reducible refine (HOf1.out _ hk0).mono ?_
        rintro e w11 ⟨u11, rfl, ht11, hb11⟩
        have hk11 := hk0.trans (hb11.mono hk0.size)
        obtain ⟨ra, rn, rc, ra2, rn2, rc2, rfl⟩ := refAt_agg ht11
        dsimp only
        refine hK.out _ _ (fun _ => HSp.out _ hk11) ?_
        clear hK K
        refine wpAnyN_one (i := 6) (by kernel_rfl) rfl (fun K hK => ?_)
        go_simp
        go_at_call 13
        with_reducible refine (HOf2.out _ hk11).mono ?_
        rintro e w12 ⟨u12, rfl, ht12, hb12⟩
        have hk12 := hk11.trans (hb12.mono hk11.size)
        have ht11' := refAt_below ht11 hb12
        have hs12 := hk12.size
        have HMd := Lib.hid (moved_any w12.heap.size 38 l.length (by decide) (by omega) _ Tq (Nat.le_refl _) (by have := HcT.out; omega) HBq.out w12 _ (Nat.le_refl _) (refAt.keep (S' := fun q => q < w12.heap.size) (W' := w12) (fun q _ hq => ⟨rfl, hq⟩) _ _ ht12))
        unfold mvPost at HMd
        have h38 : ((38 : Nat) : Int) = 38 := rfl
        rw [h38] at HMd
        clear h38
        obtain ⟨sa, sn, sc, sa2, sn2, sc2, rfl⟩ := refAt_agg ht12
        dsimp only
        refine hK.out _ _ (fun _ => HSp.out _ hk12) ?_
        clear hK K
        refine wpAnyN_one (i := 9) (by kernel_rfl) rfl (fun K hK => ?_)
        go_simp
        go_at_call 14
        with_reducible refine (HMd.out).mono ?_
        rintro e w13 ⟨u13, rfl, ht13, hb13⟩
        have hk13 := hk12.trans (hb13.mono hk12.size)
        have ht11'' := refAt_below ht11' hb13
        rw [← HEq.out] at ht13
        have HSm := Lib.hid (sameTree_any _ _ l1.length (by omega) _ T1 (Nat.le_refl _) (by omega) HB1t.out w13 _ _ ht11'' ht13)
        obtain ⟨va, vn, vc, va2, vn2, vc2, rfl⟩ := refAt_agg ht13
        dsimp only
        refine hK.out _ _ (fun _ => HSp.out _ hk13) ?_
        clear hK K
        refine wpAnyN_one (i := 10) (by kernel_rfl) rfl (fun K hK => ?_)
        go_simp
        go_at_call 12
        with_reducible refine (HSm.out).mono ?_
        rintro e w14 ⟨rfl, hb14⟩
        have hk14 := hk13.trans (hb14.mono hk13.size)
        dsimp only
        refine hK.out _ _ (fun _ => HSp.out _ hk14) ?_
        clear hK K
        refine wpAnyN_one (i := 11) (by kernel_rfl) rfl (fun K hK => ?_)
        go_simp
        refine hK.out _ _ (fun hh => absurd rfl hh) ?_
        clear hK K
        have HK14 := Lib.hid hk14
        clear hk14 hk13 hk12 hk11 hk0 hb14 hb13 hb12 hb11 ht11 ht11' ht11'' ht12 ht13 hS0 HSp HSm HMd
        refine wpAnyN_done (by kernel_rfl) ?_ _
        go_wp2_with fail
        go_ret
        exact ⟨rfl, HBall.out.trans ((HB10.out.trans (HK14.out.mono HB10.out.size)).mono HBall.out.size)⟩
end Go.Proofs.YtfgppamhbchhcaaGreatDoor
