/- The laws of layer 16 (fetch): FetchInner. -/
import Derived.Test.YtahmhakdpmcdoaaGreatDoorGbFeK
import Derived.Test.YtahmhakdpmcdoaaGreatDoorGbFeI
import Derived.Lib.AppendStr
namespace Go.Proofs.YtahmhakdpmcdoaaGreatDoor
open Go Go.RowKit

def igS1 : ByteArray := ⟨#[67, 111, 110, 116, 101, 110, 116, 45, 84, 121, 112, 101, 58, 32, 109, 117, 108, 116, 105, 112, 97, 114, 116, 47, 100, 105, 103, 101, 115, 116, 59, 32, 98, 111, 117, 110, 100, 97, 114, 121, 61, 122, 122, 122, 122, 122, 13, 10, 13, 10, 45, 45, 122, 122, 122, 122, 122, 13, 10, 13, 10]⟩
def igS2 : ByteArray := ⟨#[13, 10, 45, 45, 122, 122, 122, 122, 122, 45, 45]⟩
theorem igS1_list : igS1.data.toList = igQ := rfl
theorem igS2_list : igS2.data.toList = 13 :: 10 :: igC := rfl
theorem strCells_list (s : ByteArray) : Lib.strCells s = s.data.toList.map byteV := rfl
/-- The digest's tree, as it lies. -/
theorem ig_parse_any {l : List UInt8} (hz : noZ l) (hl : l.length ≤ 1000) {L E0 : Nat} (hL : L = 72 + l.length) (hE : E0 = 61 + l.length) (v : Value) (w : World) (hv : bytesArg w v (igL l)) (he : env w) :
    Calls Tryz.prog 9 #[v] w fun e w' => ∃ ka kc ca cn cc, e = .returned (.tuple #[.agg #[.int .i64 1, .int .i64 0, .int .i64 50, .int .i64 50, .int .i64 (L : Int), .slice ka 1 kc, .slice ca cn cc, .int .i64 (E0 : Int), .int .i64 (L : Int)], .int .i64 0]) ∧ tAt w' (treeS (igL l)) (ptV (treeS (igL l)) (.slice ka 1 kc) (.slice ca cn cc)) ∧
      (∃ g, ka = some ⟨g, 0, none⟩ ∧ g < w'.heap.size ∧ w'.cell? ⟨g, 0, none⟩ = some (.int .i64 2)) ∧ kc ≤ maxLen ∧ 1 ≤ kc ∧ Below w.heap.size w w' := by
  have hT := ig_tree hz
  have h0 : ∀ (ks cs : Value), ptV (treeS (igL l)) ks cs = .agg #[.int .i64 1, .int .i64 0, .int .i64 50, .int .i64 50, .int .i64 (L : Int), ks, cs, .int .i64 (E0 : Int), .int .i64 (L : Int)] := fun ks cs => by
    rw [hT, hL, hE]
    rfl
  have h1 : (treeS (igL l)).kids.length = 1 := by rw [hT]; rfl
  have h2 : ∃ q, (treeS (igL l)).kids = [q] ∧ q.kind = 2 := by rw [hT]; exact ⟨_, rfl, rfl⟩
  have hP := fparse_any v (igL l) w hv (by rw [igL_len]; omega) he
  clear hT
  generalize treeS (igL l) = T at h0 h1 h2 hP ⊢
  obtain ⟨q, hq, hqk⟩ := h2
  have h2 : ∀ h : 0 < T.kids.length, (T.kids[0]'h).kind = 2 := by
    rw [hq]
    intro h
    exact hqk
  clear hq hqk q
  refine hP.mono ?_
  rintro e w' ⟨ka, kc, ca, cn, cc, rfl, ht, hr, hb⟩
  obtain ⟨hkc, hkm, hat⟩ := hr
  obtain ⟨g, a, n, c, a2, n2, c2, e1, hg, h9, _⟩ := hat 0 (by omega)
  obtain ⟨m0, _⟩ := h9
  rw [h2, Nat.zero_mul] at m0
  rw [h1] at ht
  refine ⟨ka, kc, ca, cn, cc, ?_, ht, ⟨g, e1, hg, m0⟩, hkm, by omega, hb⟩
  rw [h0, h1]
/-- All that the law asks of the digest, its bytes a letter. -/
theorem ig_all {l : List UInt8} (hz : noZ l) (hl : l.length ≤ 1000) : ∃ (l1 : List UInt8) (L E0 : Nat) (hx hy : List UInt8), l1 = igQ ++ l ++ (13 :: 10 :: igC) ∧ l1.length = L ∧ L = 72 + l.length ∧ okT l1.length (treeS l1) ∧
    (∀ (ks cs : Value), ptV (treeS l1) ks cs = .agg #[.int .i64 1, .int .i64 0, .int .i64 50, .int .i64 50, .int .i64 (L : Int), ks, cs, .int .i64 (E0 : Int), .int .i64 (L : Int)]) ∧
    (∀ (v : Value) (w : World), bytesArg w v l1 → env w → Calls Tryz.prog 9 #[v] w fun e w' => ∃ ka kc ca cn cc, e = .returned (.tuple #[.agg #[.int .i64 1, .int .i64 0, .int .i64 50, .int .i64 50, .int .i64 (L : Int), .slice ka 1 kc, .slice ca cn cc, .int .i64 (E0 : Int), .int .i64 (L : Int)], .int .i64 0]) ∧ tAt w' (treeS l1) (ptV (treeS l1) (.slice ka 1 kc) (.slice ca cn cc)) ∧
      (∃ g, ka = some ⟨g, 0, none⟩ ∧ g < w'.heap.size ∧ w'.cell? ⟨g, 0, none⟩ = some (.int .i64 2)) ∧ kc ≤ maxLen ∧ 1 ≤ kc ∧ Below w.heap.size w w') ∧
    getL l1 (treeS l1) ⟨[1], 0, [], false, 0, 0⟩ = l ∧ getL l1 (treeS l1) ⟨[1], 1, [], false, 0, 0⟩ = hx ∧ getL l1 (treeS l1) ⟨[1], 4, [], false, 0, 0⟩ = hy ∧ hx ++ hy = l ∧ getL l1 (treeS l1) ⟨[1], 5, [], false, 0, 0⟩ = [13, 10] := by
  obtain ⟨_, hx, hy, _, g1, g2, g3, g4, g5⟩ := ig_law hz
  have hlq : igL l = igQ ++ l ++ (13 :: 10 :: igC) := by rw [igL_Q, List.append_assoc]
  have hlen := igL_len l
  have hpv : ∀ (ks cs : Value), ptV (treeS (igL l)) ks cs = .agg #[.int .i64 1, .int .i64 0, .int .i64 50, .int .i64 50, .int .i64 ((72 + l.length : Nat) : Int), ks, cs, .int .i64 ((61 + l.length : Nat) : Int), .int .i64 ((72 + l.length : Nat) : Int)] := fun ks cs => by
    rw [ig_tree hz]
    rfl
  have hpa := fun v w h1 h2 => ig_parse_any hz hl rfl rfl v w h1 h2
  obtain ⟨l1, h⟩ : ∃ l1, l1 = igL l := ⟨_, rfl⟩
  rw [← h] at hlq hlen hpv hpa g1 g2 g3 g5
  clear h
  exact ⟨l1, 72 + l.length, 61 + l.length, hx, hy, hlq, hlen, rfl, tree_okT l1, hpv, hpa, g1, g2, g3, g4, g5⟩
set_option maxRecDepth 100000 in
set_option maxHeartbeats 2000000 in
theorem fetchInner_any (v : Value) (l : List UInt8) (w : World) (hv : bytesArg w v l) (he : env w) :
    Calls Tryz.prog 6 #[v] w fun e w' => e = .returned (.bool true) ∧ Below w.heap.size w w' := by
  have HV := Lib.hid hv
  have HE := Lib.hid he
  have HAw := Lib.hid (fawake_any w he)
  obtain ⟨ao, cap, rfl, hc, hm, hs⟩ := hv
  have HS : Hid (sliceAt w ao l) := hs
  unfold maxLen at hm
  obtain ⟨i0, hi, hz0, hz1, hz2⟩ := info_parts Tryz.infoB
  have HI0 := Lib.hid hi
  have HZ0 := Lib.hid hz0
  have HZ1 := Lib.hid hz1
  have HZ2 := Lib.hid hz2
  have HCm := Lib.hid hc
  clear hs he hi hz0 hz1 hz2
  by_cases hl : 1000 < l.length
  · have hd : decide ((1000 : Int) < (l.length : Int)) = true := decide_eq_true (by omega)
    go_enter Tryz.func6, Tryz.ntmps6
    go_wp2_with fail
    with_reducible refine HAw.out.mono ?_
    rintro e w1 ⟨rfl, hb1⟩
    have HB1 := Lib.hid hb1
    clear hb1
    go_wp2_with fail
    go_ret
    exact ⟨rfl, HB1.out⟩
  have hd : decide ((1000 : Int) < (l.length : Int)) = false := decide_eq_false (by omega)
  have hlb : l.length ≤ 1000 := by omega
  clear hl
  go_enter Tryz.func6, Tryz.ntmps6
  go_wp2_with fail
  with_reducible refine HAw.out.mono ?_
  rintro e w1 ⟨rfl, hb1⟩
  have HB1 := Lib.hid hb1
  clear hb1 HAw
  go_wp2_with (at_builtin; refine Lib.wpList_append_own_string _ rfl _ _ 22 9 rfl w1.heap.size 5 i0 Tryz.underlying22 Tryz.underlying9 HI0.out HZ0.out HZ1.out HZ2.out _ _ _ rfl (World.ownsRow_nil _ _ _ _) (igS1) rfl ?a1 ?b1 ?c1 ?_)
  case a1 => unfold maxLen; show 0 + 61 ≤ _; omega
  case b1 => show 0 + 61 ≤ _; omega
  case c1 => exact Nat.le_refl _
  intro v2 w2 hown2 hgrow2 _
  have HO2 : Hid (w2.ownsRow w1.heap.size 5 1 v2 61 (igQ.map byteV)) := own_cast hown2 rfl (by rw [strCells_list, igS1_list])
  have HB2 : Hid (Below w1.heap.size w1 w2) := (Below.refl _ _).grown hgrow2 (Nat.le_refl _) (fun q hq => by cases hq)
  clear hown2 hgrow2
  go_wp2_with (at_builtin; refine wpList_append_bytes rfl _ _ 22 rfl w1.heap.size 5 i0 Tryz.underlying22 HI0.out HZ0.out HZ1.out HZ2.out _ _ _ rfl (HO2.out) ao cap l rfl (HS.out.below (HB1.out.trans (HB2.out.mono HB1.out.size))) ?a2 ?c2 ?_)
  case a2 => omega
  case c2 => exact HB2.out.size
  intro v3 w3 hown3 hgrow3
  have HO3 : Hid (w3.ownsRow w1.heap.size 5 1 v3 (61 + l.length) ((igQ ++ l).map byteV)) := own_cast hown3 rfl (by rw [List.map_append])
  have HB3 : Hid (Below w1.heap.size w1 w3) := HB2.out.grown hgrow3 HB2.out.size (fun q hq => (HO2.out.lt q hq).1)
  have HW3 := Lib.hid (HB1.out.trans (HB3.out.mono HB1.out.size))
  clear hown3 hgrow3
  go_wp2_with fail
  clear hd
  go_loopg [5] (l.length + 1) (fun g iv wr => ∃ i : Nat, i ≤ l.length ∧ g = l.length + 1 - i ∧ iv = .int .i64 (i : Int) ∧ Hid (∀ j, j < i → j + 5 ≤ l.length → partS l j (j + 5) ≠ igZ) ∧ w3 = wr)
  case atStart => exact ⟨0, Nat.zero_le _, rfl, rfl, (fun j hj => by omega), rfl⟩
  case round =>
    obtain ⟨i, hi, rfl, rfl, HNo, rfl⟩ := hrel
    by_cases hlt : i + 5 ≤ l.length
    · have hle : decide ((i : Int) + 5 ≤ (l.length : Int)) = true := decide_eq_true (by omega)
      have hci : ¬ cap = i := by have := HCm.out; omega
      have hcv := cut_string (HS.out.below HW3.out) (F := i) (T := i + 5) (by omega) hlt HCm.out hm
      rw [show i + 5 - i = 5 by omega] at hcv
      obtain ⟨P, hP⟩ : ∃ P, P = partS l i (i + 5) := ⟨_, rfl⟩
      obtain ⟨S, hSd⟩ : ∃ S : ByteArray, S = ⟨P.toArray⟩ := ⟨_, rfl⟩
      rw [← hP, ← hSd] at hcv
      have hSl : S.toList = P := by rw [hSd, ByteArray.toList_eq]
      have HP := Lib.hid hP
      by_cases he : P = igZ
      · have q1 : (S.toList == [122, 122, 122, 122, 122]) = true := by rw [hSl, he]; decide
        have q2 : (([122, 122, 122, 122, 122] : List UInt8) == S.toList) = true := by rw [hSl, he]; decide
        clear hP hSd hSl he HNo
        go_wp2_with fail
        go_ret
        exact ⟨rfl, HW3.out⟩
      · have q1 : (S.toList == [122, 122, 122, 122, 122]) = false := by rw [hSl]; exact beq_eq_false_iff_ne.2 he
        have q2 : (([122, 122, 122, 122, 122] : List UInt8) == S.toList) = false := by rw [hSl]; exact beq_eq_false_iff_ne.2 (fun h => he h.symm)
        have HNx : Hid (∀ j, j < i + 1 → j + 5 ≤ l.length → partS l j (j + 5) ≠ igZ) := fun j hj h5 => by
          rcases Nat.lt_or_ge j i with h | h
          · exact HNo.out j h h5
          · obtain rfl : j = i := by omega
            rw [← HP.out]
            exact he
        clear hP hSd hSl he HNo HP
        go_wp2_with fail
        go_roundg (l.length + 1 - (i + 1))
        case measure => omega
        case rel => exact ⟨i + 1, by omega, rfl, by go_num, HNx, rfl⟩
    · have hle : decide ((i : Int) + 5 ≤ (l.length : Int)) = false := decide_eq_false (by omega)
      have hz : noZ l := fun j h5 => HNo.out j (by omega) h5
      obtain ⟨l1, L, E0, hx, hy, hlq, hLl, hL, hok, hpv, hpa, g1, g2, g3, g4, g5⟩ := ig_all hz hlb
      have hLb : L ≤ 1072 := by omega
      have HPa := Lib.hid hpa
      have HPv := Lib.hid hpv
      have HHok := Lib.hid hok
      have HLl := Lib.hid hLl
      have HLq := Lib.hid hlq
      have HL := Lib.hid hL
      have G1 := Lib.hid g1
      have G2 := Lib.hid g2
      have G3 := Lib.hid g3
      have G4 := Lib.hid g4
      have G5 := Lib.hid g5
      clear HNo hz hpv hpa g1 g2 g3 g4 g5 hok hLl hlq hL
      go_wp2_with (at_builtin; refine Lib.wpList_append_own_string _ rfl _ _ 22 9 rfl w1.heap.size 5 i0 Tryz.underlying22 Tryz.underlying9 HI0.out HZ0.out HZ1.out HZ2.out _ _ _ rfl HO3.out (igS2) rfl ?a4 ?b4 ?c4 ?_)
      case a4 => unfold maxLen; show 61 + l.length + 11 ≤ _; omega
      case b4 => show 61 + l.length + 11 ≤ _; omega
      case c4 => exact HB3.out.size
      intro v4 w4 hown4 hgrow4 _
      have HO4 : Hid (w4.ownsRow w1.heap.size 5 1 v4 l1.length (l1.map byteV)) := own_cast hown4 (by rw [HLl.out, HL.out]; show 61 + l.length + 11 = _; omega) (by rw [strCells_list, igS2_list, HLq.out]; simp only [List.map_append, List.append_assoc])
      have HB4 : Hid (Below w1.heap.size w1 w4) := HB3.out.grown hgrow4 HB3.out.size (fun q hq => (HO3.out.lt q hq).1)
      have HW4 := Lib.hid (HB1.out.trans (HB4.out.mono HB1.out.size))
      clear hown4 hgrow4
      have HAg := Lib.hid (bytesArg_owned HO4.out)
      obtain ⟨ao1, cap1, rfl, _, _, _⟩ := HAg.out
      rw [HLl.out] at HAg ⊢
      go_wp2_with fail
      with_reducible refine (HPa.out _ _ ?k1 ?k2).mono ?_
      case k1 => rw [← HLl.out]; exact bytesArg_owned HO4.out
      case k2 => exact HE.out.below HW4.out
      rintro e w5 ⟨ka, kc, ca, cn, cc, rfl, hta, ⟨g, rfl, hg, hg0⟩, hkm, hk1, hb5⟩
      have HW5 : Hid (Below w.heap.size w w5) := HW4.out.trans (hb5.mono HW4.out.size)
      have HTa := Lib.hid hta
      have HA5 : Hid (bytesArg w5 (.slice ao1 L cap1) l1) := by
        exact bytesArg.below HAg.out hb5
      unfold maxLen at hkm
      clear hb5 hta HPa
      go_upto_region 16 with fail
      have HX0 : Hid ((w5.alloc (.cells #[.int .i64 1, .int .i64 0, .int .i64 50, .int .i64 50, .int .i64 (L : Int), .slice (some ⟨g, 0, none⟩) 1 kc, .slice ca cn cc, .int .i64 (E0 : Int), .int .i64 (L : Int)] 35)).heap[w5.heap.size]? = some (partO 1 0 50 50 (L : Int) (.slice (some ⟨g, 0, none⟩) 1 kc) (.slice ca cn cc) (E0 : Int) (L : Int))) := heap_alloc_new w5 _
      have HC0 : Hid (Below w5.heap.size w5 (w5.alloc (.cells #[.int .i64 1, .int .i64 0, .int .i64 50, .int .i64 50, .int .i64 (L : Int), .slice (some ⟨g, 0, none⟩) 1 kc, .slice ca cn cc, .int .i64 (E0 : Int), .int .i64 (L : Int)] 35))) := (Below.refl _ _).alloc (Nat.le_refl _) _
      generalize (w5.alloc (.cells #[.int .i64 1, .int .i64 0, .int .i64 50, .int .i64 50, .int .i64 (L : Int), .slice (some ⟨g, 0, none⟩) 1 kc, .slice ca cn cc, .int .i64 (E0 : Int), .int .i64 (L : Int)] 35)) = x0 at HX0 HC0 ⊢
      have hgx : x0.cell? ⟨g, 0, none⟩ = some (.int .i64 2) := (HC0.out.cell (p := ⟨g, 0, none⟩) hg).trans hg0
      have HVal : Hid (ptV (treeS l1) (.slice (some ⟨g, 0, none⟩) 1 kc) (.slice ca cn cc) = .agg #[.int .i64 1, .int .i64 0, .int .i64 50, .int .i64 50, .int .i64 (L : Int), .slice (some ⟨g, 0, none⟩) 1 kc, .slice ca cn cc, .int .i64 (E0 : Int), .int .i64 (L : Int)]) := HPv.out _ _
      have HG1 : Hid (∀ (W : World) (a1 : Option Addr), Below w5.heap.size w5 W → SpF W ⟨[1], 0, [], false, 0, 0⟩ a1 none 1 0 → Calls Tryz.prog 10 #[.slice ao1 L cap1, .agg #[.int .i64 1, .int .i64 0, .int .i64 50, .int .i64 50, .int .i64 (L : Int), .slice (some ⟨g, 0, none⟩) 1 kc, .slice ca cn cc, .int .i64 (E0 : Int), .int .i64 (L : Int)], .agg #[.slice a1 1 1, .int .i64 0, .slice none 0 0, .bool false, .int .i64 0, .int .i64 0]] W fun e w' => ∃ u, e = .returned u ∧ bytesArg w' u l ∧ Below W.heap.size W w') := fun W a1 hb h => by
        have hg := fget_any (.slice ao1 L cap1) l1 (treeS l1) (.slice (some ⟨g, 0, none⟩) 1 kc) (.slice ca cn cc) ⟨[1], 0, [], false, 0, 0⟩ a1 none 1 0 W (bytesArg.below HA5.out hb) (by rw [HLl.out]; omega) HHok.out (HTa.out.below hb) h
        rw [G1.out] at hg
        rw [HVal.out] at hg
        exact hg
      have HG2 : Hid (∀ (W : World) (a1 : Option Addr), Below w5.heap.size w5 W → SpF W ⟨[1], 1, [], false, 0, 0⟩ a1 none 1 0 → Calls Tryz.prog 10 #[.slice ao1 L cap1, .agg #[.int .i64 1, .int .i64 0, .int .i64 50, .int .i64 50, .int .i64 (L : Int), .slice (some ⟨g, 0, none⟩) 1 kc, .slice ca cn cc, .int .i64 (E0 : Int), .int .i64 (L : Int)], .agg #[.slice a1 1 1, .int .i64 1, .slice none 0 0, .bool false, .int .i64 0, .int .i64 0]] W fun e w' => ∃ u, e = .returned u ∧ bytesArg w' u hx ∧ Below W.heap.size W w') := fun W a1 hb h => by
        have hg := fget_any (.slice ao1 L cap1) l1 (treeS l1) (.slice (some ⟨g, 0, none⟩) 1 kc) (.slice ca cn cc) ⟨[1], 1, [], false, 0, 0⟩ a1 none 1 0 W (bytesArg.below HA5.out hb) (by rw [HLl.out]; omega) HHok.out (HTa.out.below hb) h
        rw [G2.out] at hg
        rw [HVal.out] at hg
        exact hg
      have HG3 : Hid (∀ (W : World) (a1 : Option Addr), Below w5.heap.size w5 W → SpF W ⟨[1], 4, [], false, 0, 0⟩ a1 none 1 0 → Calls Tryz.prog 10 #[.slice ao1 L cap1, .agg #[.int .i64 1, .int .i64 0, .int .i64 50, .int .i64 50, .int .i64 (L : Int), .slice (some ⟨g, 0, none⟩) 1 kc, .slice ca cn cc, .int .i64 (E0 : Int), .int .i64 (L : Int)], .agg #[.slice a1 1 1, .int .i64 4, .slice none 0 0, .bool false, .int .i64 0, .int .i64 0]] W fun e w' => ∃ u, e = .returned u ∧ bytesArg w' u hy ∧ Below W.heap.size W w') := fun W a1 hb h => by
        have hg := fget_any (.slice ao1 L cap1) l1 (treeS l1) (.slice (some ⟨g, 0, none⟩) 1 kc) (.slice ca cn cc) ⟨[1], 4, [], false, 0, 0⟩ a1 none 1 0 W (bytesArg.below HA5.out hb) (by rw [HLl.out]; omega) HHok.out (HTa.out.below hb) h
        rw [G3.out] at hg
        rw [HVal.out] at hg
        exact hg
      have HG4 : Hid (∀ (W : World) (a1 : Option Addr), Below w5.heap.size w5 W → SpF W ⟨[1], 5, [], false, 0, 0⟩ a1 none 1 0 → Calls Tryz.prog 10 #[.slice ao1 L cap1, .agg #[.int .i64 1, .int .i64 0, .int .i64 50, .int .i64 50, .int .i64 (L : Int), .slice (some ⟨g, 0, none⟩) 1 kc, .slice ca cn cc, .int .i64 (E0 : Int), .int .i64 (L : Int)], .agg #[.slice a1 1 1, .int .i64 5, .slice none 0 0, .bool false, .int .i64 0, .int .i64 0]] W fun e w' => ∃ u, e = .returned u ∧ bytesArg w' u [13, 10] ∧ Below W.heap.size W w') := fun W a1 hb h => by
        have hg := fget_any (.slice ao1 L cap1) l1 (treeS l1) (.slice (some ⟨g, 0, none⟩) 1 kc) (.slice ca cn cc) ⟨[1], 5, [], false, 0, 0⟩ a1 none 1 0 W (bytesArg.below HA5.out hb) (by rw [HLl.out]; omega) HHok.out (HTa.out.below hb) h
        rw [G5.out] at hg
        rw [HVal.out] at hg
        exact hg
      obtain ⟨t0, t1, t2, t3, t4, t5, t6, t7, t8⟩ := part_cells HX0.out
      have hx0 : w5.heap.size < x0.heap.size := (Array.getElem?_eq_some_iff.1 HX0.out).1
      go_wp2_with fail
      with_reducible refine (HG1.out _ _ ?k1 ?k2).mono ?_
      case k1 => exact HC0.out.alloc HC0.out.size _
      case k2 => exact spF_one _ _ 1 _
      rintro e x1 ⟨u1, rfl, hu, hb⟩
      have HU1 := Lib.hid hu
      have hg1 : Below x0.heap.size x0 x1 := ((Below.refl _ _).alloc (Nat.le_refl _) _).trans (hb.mono (by simp))
      have HX1 := Lib.hid ((hg1.block _ hx0).trans HX0.out)
      have HC1 := Lib.hid (HC0.out.trans (hg1.mono HC0.out.size))
      have HD1 := Lib.hid hg1
      clear hu hb hg1 t0 t1 t2 t3 t4 t5 t6 t7 t8 hgx
      obtain ⟨t0, t1, t2, t3, t4, t5, t6, t7, t8⟩ := part_cells HX1.out
      have hx1 : w5.heap.size < x1.heap.size := (Array.getElem?_eq_some_iff.1 HX1.out).1
      go_wp2_with fail
      with_reducible refine (HG2.out _ _ ?k1 ?k2).mono ?_
      case k1 => exact HC1.out.alloc HC1.out.size _
      case k2 => exact spF_one _ _ 1 _
      rintro e x2 ⟨u2, rfl, hu, hb⟩
      have HU2 := Lib.hid hu
      have hg2 : Below x1.heap.size x1 x2 := ((Below.refl _ _).alloc (Nat.le_refl _) _).trans (hb.mono (by simp))
      have HX2 := Lib.hid ((hg2.block _ hx1).trans HX1.out)
      have HC2 := Lib.hid (HC1.out.trans (hg2.mono HC1.out.size))
      have HD2 := Lib.hid hg2
      clear hu hb hg2 t0 t1 t2 t3 t4 t5 t6 t7 t8
      obtain ⟨t0, t1, t2, t3, t4, t5, t6, t7, t8⟩ := part_cells HX2.out
      have hx2 : w5.heap.size < x2.heap.size := (Array.getElem?_eq_some_iff.1 HX2.out).1
      go_wp2_with fail
      with_reducible refine (HG3.out _ _ ?k1 ?k2).mono ?_
      case k1 => exact HC2.out.alloc HC2.out.size _
      case k2 => exact spF_one _ _ 1 _
      rintro e x3 ⟨u3, rfl, hu, hb⟩
      have HU3 := Lib.hid hu
      have hg3 : Below x2.heap.size x2 x3 := ((Below.refl _ _).alloc (Nat.le_refl _) _).trans (hb.mono (by simp))
      have HX3 := Lib.hid ((hg3.block _ hx2).trans HX2.out)
      have HC3 := Lib.hid (HC2.out.trans (hg3.mono HC2.out.size))
      have HD3 := Lib.hid hg3
      clear hu hb hg3 t0 t1 t2 t3 t4 t5 t6 t7 t8
      obtain ⟨t0, t1, t2, t3, t4, t5, t6, t7, t8⟩ := part_cells HX3.out
      have hx3 : w5.heap.size < x3.heap.size := (Array.getElem?_eq_some_iff.1 HX3.out).1
      go_wp2_with fail
      with_reducible refine (HG4.out _ _ ?k1 ?k2).mono ?_
      case k1 => exact HC3.out.alloc HC3.out.size _
      case k2 => exact spF_one _ _ 1 _
      rintro e x4 ⟨u4, rfl, hu, hb⟩
      have HU4 := Lib.hid hu
      have hg4 : Below x3.heap.size x3 x4 := ((Below.refl _ _).alloc (Nat.le_refl _) _).trans (hb.mono (by simp))
      have HX4 := Lib.hid ((hg4.block _ hx3).trans HX3.out)
      have HC4 := Lib.hid (HC3.out.trans (hg4.mono HC3.out.size))
      have HD4 := Lib.hid hg4
      clear hu hb hg4 t0 t1 t2 t3 t4 t5 t6 t7 t8
      have k1 := bytesArg_string (bytesArg.below HU1.out (HD2.out.trans ((HD3.out.trans (HD4.out.mono HD3.out.size)).mono HD2.out.size)))
      have k2 := bytesArg_string (bytesArg.below HU2.out (HD3.out.trans (HD4.out.mono HD3.out.size)))
      have k3 := bytesArg_string (bytesArg.below HU3.out HD4.out)
      have k4 := bytesArg_string HU4.out
      have HWx : Hid (Below w.heap.size w x4) := HW5.out.trans (HC4.out.mono HW5.out.size)
      have k5 := bytesArg_string (bytesArg.below HV.out HWx.out)
      have hlen := congrArg List.length G4.out
      rw [List.length_append] at hlen
      obtain ⟨B, hB⟩ : ∃ B : ByteArray, B = ⟨l.toArray⟩ := ⟨_, rfl⟩
      obtain ⟨A, hA⟩ : ∃ A : ByteArray, A = ⟨hx.toArray⟩ := ⟨_, rfl⟩
      obtain ⟨C, hC⟩ : ∃ C : ByteArray, C = ⟨hy.toArray⟩ := ⟨_, rfl⟩
      have hAs : A.size = hx.length := by rw [hA]; rfl
      have hCs : C.size = hy.length := by rw [hC]; rfl
      have z1 : A.size ≤ 1000 := by omega
      have z2 : C.size ≤ 1000 := by omega
      have q1 : ((A ++ C).toList == B.toList) = true := str_eq (by rw [cat_toList, hA, hB, hC]; simpa using G4.out)
      have q2 : (B.toList == B.toList) = true := str_eq rfl
      rw [← hB] at k1 k5
      rw [← hA] at k2
      rw [← hC] at k3
      clear hB hA hC hAs hCs hlen
      go_wp2_with fail
      go_ret
      exact ⟨rfl, HWx.out⟩
end Go.Proofs.YtahmhakdpmcdoaaGreatDoor
