/- The laws of layer 16 (fetch): FetchFields. -/
import Derived.Test.YtahmhakdpmcdoaaGreatDoorGbFeK
namespace Go.Proofs.YtahmhakdpmcdoaaGreatDoor
open Go Go.RowKit

def namL (ns : List ByteArray) : List (List UInt8) := ns.map fun s => s.data.toList
theorem namL_bs (ns : List ByteArray) : bsL (namL ns) = ns := by
  unfold bsL namL
  rw [List.map_map]
  conv => rhs; rw [← List.map_id ns]
  refine List.map_congr_left fun s _ => ?_
  exact bytes_eq (by simp)
theorem namL_str (ns : List ByteArray) : (namL ns).map strV = ns.map Value.string := by
  unfold namL
  rw [List.map_map]
  refine List.map_congr_left fun s _ => ?_
  exact congrArg Value.string (bytes_eq (by simp))
theorem namL_len (ns : List ByteArray) : (namL ns).length = ns.length := by unfold namL; simp
theorem spF_names {W : World} {ns : List ByteArray} {q : Int} {no : Option Addr} {nc : Nat} (h : strsArg W (.slice no ns.length nc) ns) (hs : ∀ s ∈ ns, s.size ≤ 1000000000) : SpF W ⟨[], q, namL ns, false, 0, 0⟩ none no 0 nc := by
  have hn := namL_len ns
  refine ⟨⟨rowOf_emp W, ?_, fun a ha => ?_⟩, ?_⟩
  · show rowOf W (.slice no (namL ns).length nc) ((namL ns).map strV)
    rw [namL_str, hn]
    obtain ⟨ao, cap, e, _, _, _, h4⟩ := h
    obtain ⟨rfl, _, rfl⟩ := Value.slice.inj e
    refine ⟨no, nc, by simp, ?_⟩
    rcases h4 with rfl | ⟨b, off, e, hlt, hc⟩
    · exact .inl rfl
    · exact .inr ⟨b, off, e, hlt, fun j hj => by rw [List.getElem_map]; exact hc j (by simpa using hj)⟩
  · have ha' : a ∈ namL ns := ha
    unfold namL at ha'
    obtain ⟨s, hs', rfl⟩ := List.mem_map.1 ha'
    have := hs s hs'
    rw [len_toList]
    exact this
  · show strsArg W (.slice no (namL ns).length nc) (bsL (namL ns))
    rw [namL_bs, hn]
    exact h
theorem names_ok {ns : List ByteArray} (h1 : 1 ≤ ns.length) (h2 : ns.length ≤ 100) (h : ∀ s ∈ ns, nameOk s.data.toList = true) : namesOk (namL ns) = true := by
  unfold namesOk
  rw [namL_len, decide_eq_true h1, decide_eq_true h2]
  simp only [Bool.true_and]
  rw [List.all_eq_true]
  intro a ha
  unfold namL at ha
  obtain ⟨s, hs, rfl⟩ := List.mem_map.1 ha
  exact h s hs
theorem fields_get (l : List UInt8) (t : Tr) {ns : List ByteArray} (h : namesOk (namL ns) = true) :
    (getL l t ⟨[], 2, namL ns, false, 0, 0⟩).length + (getL l t ⟨[], 3, namL ns, false, 0, 0⟩).length = (getL l t ⟨[], 3, [[58]], false, 0, 0⟩).length + 2 ∧ getL l t ⟨[], 2, [[58]], false, 0, 0⟩ = [13, 10] := fields_law l t h
set_option maxRecDepth 100000 in
set_option maxHeartbeats 4000000 in
theorem fetchFields_any (v : Value) (l : List UInt8) (vn : Value) (ns : List ByteArray) (w : World) (hv : bytesArg w v l) (hn : strsArg w vn ns) (he : env w) :
    Calls Tryz.prog 5 #[v, vn] w fun e w' => e = .returned (.bool true) ∧ Below w.heap.size w w' := by
  have HV := Lib.hid hv
  have HN := Lib.hid hn
  have HE := Lib.hid he
  have HAw := Lib.hid (fawake_any w he)
  obtain ⟨ao, cap, rfl, hc, hm, _⟩ := hv
  obtain ⟨no, nc, rfl, hnc, hnm, hnat⟩ := hn.at
  have HNat := Lib.hid hnat
  unfold maxLen at hm hnm
  clear hn hnat he
  have hcases : 1000 < l.length ∨ (l.length ≤ 1000 ∧ ns.length = 0) ∨ (l.length ≤ 1000 ∧ 6 < ns.length) ∨ (l.length ≤ 1000 ∧ 0 < ns.length ∧ ns.length ≤ 6) := by omega
  rcases hcases with hl | ⟨hl, hn0⟩ | ⟨hl, hn6⟩ | ⟨hl, hn0, hn6⟩
  · have hd : decide ((1000 : Int) < (l.length : Int)) = true := decide_eq_true (by omega)
    go_enter Tryz.func5, Tryz.ntmps5
    go_wp2_with fail
    with_reducible refine HAw.out.mono ?_
    rintro e w1 ⟨rfl, hb1⟩
    have HB1 := Lib.hid hb1
    clear hb1
    go_wp2_with fail
    go_ret
    exact ⟨rfl, HB1.out⟩
  · have hd : decide ((1000 : Int) < (l.length : Int)) = false := decide_eq_false (by omega)
    have hz : ((ns.length : Int) == 0) = true := beq_yes (by omega)
    go_enter Tryz.func5, Tryz.ntmps5
    go_wp2_with fail
    with_reducible refine HAw.out.mono ?_
    rintro e w1 ⟨rfl, hb1⟩
    have HB1 := Lib.hid hb1
    clear hb1
    go_wp2_with fail
    go_ret
    exact ⟨rfl, HB1.out⟩
  · have hd : decide ((1000 : Int) < (l.length : Int)) = false := decide_eq_false (by omega)
    have hz : ((ns.length : Int) == 0) = false := beq_no (by omega)
    have hd6 : decide ((6 : Int) < (ns.length : Int)) = true := decide_eq_true (by omega)
    go_enter Tryz.func5, Tryz.ntmps5
    go_wp2_with fail
    with_reducible refine HAw.out.mono ?_
    rintro e w1 ⟨rfl, hb1⟩
    have HB1 := Lib.hid hb1
    clear hb1
    go_wp2_with fail
    go_ret
    exact ⟨rfl, HB1.out⟩
  have hd : decide ((1000 : Int) < (l.length : Int)) = false := decide_eq_false (by omega)
  have hz : ((ns.length : Int) == 0) = false := beq_no (by omega)
  have hd6 : decide ((6 : Int) < (ns.length : Int)) = false := decide_eq_false (by omega)
  go_enter Tryz.func5, Tryz.ntmps5
  go_wp2_with fail
  with_reducible refine HAw.out.mono ?_
  rintro e w1 ⟨rfl, hb1⟩
  have HB1 := Lib.hid hb1
  clear hb1
  go_wp2_with fail
  clear hd hz hd6
  go_loopg [6] ns.length (fun g iv wr => ∃ i : Nat, i ≤ ns.length ∧ g = ns.length - i ∧ iv = .int .i64 (i : Int) ∧ Hid (∀ s ∈ ns.take i, nameOk s.data.toList = true ∧ s.size ≤ 30) ∧ w1 = wr)
  case atStart => exact ⟨0, Nat.zero_le _, rfl, rfl, (fun s hs => by simp at hs), rfl⟩
  case round =>
    obtain ⟨i, hi, rfl, rfl, HOk, rfl⟩ := hrel
    by_cases hlt : i < ns.length
    · obtain ⟨b, off, rfl, hb, hcl, hsz⟩ := HNat.out i hlt
      replace hcl := (HB1.out.cell (p := ⟨b, off + i, none⟩) hb).trans hcl
      have HIn : Hid (∀ j, j < ns.length → ∀ s, s ∈ ns.take (j + 1) → s ∈ ns.take j ∨ s = ns[j]!) := fun j hj s hs => by
        rw [List.take_succ_eq_append_getElem hj, List.mem_append, List.mem_singleton] at hs
        rcases hs with h | h
        · exact .inl h
        · right
          rw [h, getElem!_pos ns j hj]
      obtain ⟨s, hs⟩ : ∃ s, s = ns[i] := ⟨_, rfl⟩
      have HS : Hid (ns[i]! = s) := by unfold Hid; rw [hs, getElem!_pos ns i hlt]
      rw [← hs] at hcl hsz
      unfold maxLen at hsz
      clear hs
      by_cases h30 : 30 < s.size
      · have hd30 : decide ((30 : Int) < (s.size : Int)) = true := decide_eq_true (by omega)
        go_wp2_with fail
        go_ret
        exact ⟨rfl, HB1.out⟩
      · have hd30 : decide ((30 : Int) < (s.size : Int)) = false := decide_eq_false (by omega)
        go_wp2_with fail
        go_loopg [7] s.size (fun g kv wx => ∃ k : Nat, k ≤ s.size ∧ g = s.size - k ∧ kv = .int .i64 (k : Int) ∧ Hid ((s.data.toList.take k).all byteOk = true) ∧ w1 = wx)
        case atStart => exact ⟨0, Nat.zero_le _, rfl, rfl, rfl, rfl⟩
        case round =>
          obtain ⟨k, hk, rfl, rfl, HKk, rfl⟩ := hrel
          by_cases hkl : k < s.size
          · have HT : Hid (byteOk s[k] = true → (s.data.toList.take (k + 1)).all byteOk = true) := fun h => by
              rw [take_snoc s k hkl, List.all_append, HKk.out]
              simp [h]
            have HBk : Hid (byteOk s[k] = (decide (32 ≤ (s[k].toNat : Int)) && decide ((s[k].toNat : Int) ≤ 126))) := rfl
            by_cases h1 : (s[k].toNat : Int) < 32
            · have hd1 : decide ((s[k].toNat : Int) < 32) = true := decide_eq_true h1
              go_wp2_with fail
              go_ret
              exact ⟨rfl, HB1.out⟩
            · have hd1 : decide ((s[k].toNat : Int) < 32) = false := decide_eq_false h1
              by_cases h2 : (126 : Int) < (s[k].toNat : Int)
              · have hd2 : decide ((126 : Int) < (s[k].toNat : Int)) = true := decide_eq_true h2
                go_wp2_with fail
                go_ret
                exact ⟨rfl, HB1.out⟩
              · have hd2 : decide ((126 : Int) < (s[k].toNat : Int)) = false := decide_eq_false h2
                have HYes : Hid ((s.data.toList.take (k + 1)).all byteOk = true) := HT.out (by
                  rw [HBk.out, decide_eq_true (by omega), decide_eq_true (by omega)]
                  rfl)
                clear HT HBk HKk
                go_wp2_with fail
                go_roundg (s.size - (k + 1))
                case measure => omega
                case rel => exact ⟨k + 1, by omega, rfl, by go_num, HYes, rfl⟩
          · have HYes : Hid (nameOk s.data.toList = true) := by
              have h := HKk.out
              rw [List.take_of_length_le (by rw [len_toList]; omega)] at h
              exact h
            go_wp2_with fail
            go_roundg (ns.length - (i + 1))
            case measure => omega
            case rel =>
              refine ⟨i + 1, by omega, rfl, by go_num, ?_, rfl⟩
              intro q hq
              rcases HIn.out i hlt q hq with h | h
              · exact HOk.out q h
              · rw [h, HS.out]
                exact ⟨HYes.out, by omega⟩
    · obtain rfl : i = ns.length := by omega
      have HAll : Hid (∀ s ∈ ns, nameOk s.data.toList = true ∧ s.size ≤ 30) := by
        have h := HOk.out
        rwa [List.take_length] at h
      clear HOk HNat hi hlt
      have hlw := fields_get l (treeS l) (ns := ns) (names_ok (by omega) (by omega) fun s hs => (HAll.out s hs).1)
      have hok := tree_okT l
      have HPa := Lib.hid (fparse_any (.slice ao l.length cap) l w1 (bytesArg.below HV.out HB1.out) (by omega) (HE.out.below HB1.out))
      obtain ⟨T, hT⟩ : ∃ T, T = treeS l := ⟨_, rfl⟩
      rw [← hT] at hlw hok HPa
      have hb1 := getL_len (l := l) ⟨[], 2, namL ns, false, 0, 0⟩ hok
      have hb2 := getL_len (l := l) ⟨[], 3, namL ns, false, 0, 0⟩ hok
      have hb3 := getL_len (l := l) ⟨[], 3, [[58]], false, 0, 0⟩ hok
      obtain ⟨L1, hL1⟩ : ∃ L1, L1 = getL l T ⟨[], 2, namL ns, false, 0, 0⟩ := ⟨_, rfl⟩
      obtain ⟨L2, hL2⟩ : ∃ L2, L2 = getL l T ⟨[], 3, namL ns, false, 0, 0⟩ := ⟨_, rfl⟩
      obtain ⟨L3, hL3⟩ : ∃ L3, L3 = getL l T ⟨[], 3, [[58]], false, 0, 0⟩ := ⟨_, rfl⟩
      have HL1 := Lib.hid hL1
      have HL2 := Lib.hid hL2
      have HL3 := Lib.hid hL3
      have HL4 := Lib.hid hlw.2
      rw [← hL1, ← hL2, ← hL3] at hlw
      rw [← hL1] at hb1
      rw [← hL2] at hb2
      rw [← hL3] at hb3
      have hsum : (L1.length : Int) + (L2.length : Int) = (L3.length : Int) + 2 := by have := hlw.1; omega
      have HSum := Lib.hid hsum
      have HOkT := Lib.hid hok
      unfold ptV at HPa
      clear hT hL1 hL2 hL3 hlw hok hsum
      go_wp2_with fail
      with_reducible refine HPa.out.mono ?_
      rintro e w5 ⟨ka, kc, ca, cn, cc, rfl, hta, _, hb5⟩
      have HB5 : Hid (Below w.heap.size w w5) := HB1.out.trans (hb5.mono HB1.out.size)
      have HTa : Hid (tAt w5 T (ptV T (.slice ka T.kids.length kc) (.slice ca cn cc))) := hta
      have HG := Lib.hid (fun (W : World) (s : Spc) (a1 a2 : Option Addr) (c1 c2 : Nat) (hb : Below w5.heap.size w5 W) h => fget_any (.slice ao l.length cap) l T (.slice ka T.kids.length kc) (.slice ca cn cc) s a1 a2 c1 c2 W (bytesArg.below HV.out (HB5.out.trans (hb.mono HB5.out.size))) (by omega) HOkT.out (HTa.out.below hb) h)
      unfold bytesPost ptV at HG
      clear hb5 hta HPa
      go_upto_region 17 with fail
      have HX0 : Hid ((w5.alloc (.cells #[.int .i64 (T.kind : Int), .int .i64 (T.hd.1 : Int), .int .i64 (T.hd.2 : Int), .int .i64 (T.bd.1 : Int), .int .i64 (T.bd.2 : Int), .slice ka T.kids.length kc, .slice ca cn cc, .int .i64 (T.e.1 : Int), .int .i64 (T.e.2 : Int)] 35)).heap[w5.heap.size]? = some (ptO T (.slice ka T.kids.length kc) (.slice ca cn cc))) := heap_alloc_new w5 _
      have HC0 : Hid (Below w5.heap.size w5 (w5.alloc (.cells #[.int .i64 (T.kind : Int), .int .i64 (T.hd.1 : Int), .int .i64 (T.hd.2 : Int), .int .i64 (T.bd.1 : Int), .int .i64 (T.bd.2 : Int), .slice ka T.kids.length kc, .slice ca cn cc, .int .i64 (T.e.1 : Int), .int .i64 (T.e.2 : Int)] 35))) := (Below.refl _ _).alloc (Nat.le_refl _) _
      generalize (w5.alloc (.cells #[.int .i64 (T.kind : Int), .int .i64 (T.hd.1 : Int), .int .i64 (T.hd.2 : Int), .int .i64 (T.bd.1 : Int), .int .i64 (T.bd.2 : Int), .slice ka T.kids.length kc, .slice ca cn cc, .int .i64 (T.e.1 : Int), .int .i64 (T.e.2 : Int)] 35)) = x0 at HX0 HC0 ⊢
      have HG1 : Hid (∀ (W : World), Below w5.heap.size w5 W → strsArg W (.slice no ns.length nc) ns → Calls Tryz.prog 10 #[.slice ao l.length cap, .agg #[.int .i64 (T.kind : Int), .int .i64 (T.hd.1 : Int), .int .i64 (T.hd.2 : Int), .int .i64 (T.bd.1 : Int), .int .i64 (T.bd.2 : Int), .slice ka T.kids.length kc, .slice ca cn cc, .int .i64 (T.e.1 : Int), .int .i64 (T.e.2 : Int)], .agg #[.slice none 0 0, .int .i64 2, .slice no ns.length nc, .bool false, .int .i64 0, .int .i64 0]] W fun e w' => ∃ u, e = .returned u ∧ bytesArg w' u L1 ∧ Below W.heap.size W w') := fun W hb h => by
        have hg := HG.out W ⟨[], 2, namL ns, false, 0, 0⟩ none no 0 nc hb (spF_names h fun s hs => by have := (HAll.out s hs).2; omega)
        unfold spV at hg
        simp only [namL_len, List.length_nil] at hg
        rw [← HL1.out] at hg
        exact hg
      have HG2 : Hid (∀ (W : World), Below w5.heap.size w5 W → strsArg W (.slice no ns.length nc) ns → Calls Tryz.prog 10 #[.slice ao l.length cap, .agg #[.int .i64 (T.kind : Int), .int .i64 (T.hd.1 : Int), .int .i64 (T.hd.2 : Int), .int .i64 (T.bd.1 : Int), .int .i64 (T.bd.2 : Int), .slice ka T.kids.length kc, .slice ca cn cc, .int .i64 (T.e.1 : Int), .int .i64 (T.e.2 : Int)], .agg #[.slice none 0 0, .int .i64 3, .slice no ns.length nc, .bool false, .int .i64 0, .int .i64 0]] W fun e w' => ∃ u, e = .returned u ∧ bytesArg w' u L2 ∧ Below W.heap.size W w') := fun W hb h => by
        have hg := HG.out W ⟨[], 3, namL ns, false, 0, 0⟩ none no 0 nc hb (spF_names h fun s hs => by have := (HAll.out s hs).2; omega)
        unfold spV at hg
        simp only [namL_len, List.length_nil] at hg
        rw [← HL2.out] at hg
        exact hg
      have HG3 : Hid (∀ (W : World) (a2 : Option Addr) (c2 : Nat), Below w5.heap.size w5 W → SpF W ⟨[], 3, [[58]], false, 0, 0⟩ none a2 0 c2 → Calls Tryz.prog 10 #[.slice ao l.length cap, .agg #[.int .i64 (T.kind : Int), .int .i64 (T.hd.1 : Int), .int .i64 (T.hd.2 : Int), .int .i64 (T.bd.1 : Int), .int .i64 (T.bd.2 : Int), .slice ka T.kids.length kc, .slice ca cn cc, .int .i64 (T.e.1 : Int), .int .i64 (T.e.2 : Int)], .agg #[.slice none 0 0, .int .i64 3, .slice a2 1 c2, .bool false, .int .i64 0, .int .i64 0]] W fun e w' => ∃ u, e = .returned u ∧ bytesArg w' u L3 ∧ Below W.heap.size W w') := fun W a2 c2 hb h => by
        have hg := HG.out W ⟨[], 3, [[58]], false, 0, 0⟩ none a2 0 c2 hb h
        unfold spV at hg
        rw [← HL3.out] at hg
        exact hg
      have HG4 : Hid (∀ (W : World) (a2 : Option Addr) (c2 : Nat), Below w5.heap.size w5 W → SpF W ⟨[], 2, [[58]], false, 0, 0⟩ none a2 0 c2 → Calls Tryz.prog 10 #[.slice ao l.length cap, .agg #[.int .i64 (T.kind : Int), .int .i64 (T.hd.1 : Int), .int .i64 (T.hd.2 : Int), .int .i64 (T.bd.1 : Int), .int .i64 (T.bd.2 : Int), .slice ka T.kids.length kc, .slice ca cn cc, .int .i64 (T.e.1 : Int), .int .i64 (T.e.2 : Int)], .agg #[.slice none 0 0, .int .i64 2, .slice a2 1 c2, .bool false, .int .i64 0, .int .i64 0]] W fun e w' => ∃ u, e = .returned u ∧ bytesArg w' u [13, 10] ∧ Below W.heap.size W w') := fun W a2 c2 hb h => by
        have hg := HG.out W ⟨[], 2, [[58]], false, 0, 0⟩ none a2 0 c2 hb h
        unfold spV at hg
        rw [HL4.out] at hg
        exact hg
      clear HG
      obtain ⟨t0, t1, t2, t3, t4, t5, t6, t7, t8⟩ := part_cells HX0.out
      have hx0 : w5.heap.size < x0.heap.size := (Array.getElem?_eq_some_iff.1 HX0.out).1
      go_wp2_with fail
      with_reducible refine (HG1.out _ ?k1 ?k2).mono ?_
      case k1 => exact HC0.out
      case k2 => exact strsArg.below HN.out (HB5.out.trans (HC0.out.mono HB5.out.size))
      rintro e x1 ⟨u1, rfl, hu, hb⟩
      have HU1 := Lib.hid hu
      have hg1 : Below x0.heap.size x0 x1 := hb
      have HX1 := Lib.hid ((hg1.block _ hx0).trans HX0.out)
      have HC1 := Lib.hid (HC0.out.trans (hg1.mono HC0.out.size))
      obtain ⟨uo1, uc1, rfl, _, _, _⟩ := HU1.out
      clear hu hb hg1 t0 t1 t2 t3 t4 t5 t6 t7 t8
      obtain ⟨t0, t1, t2, t3, t4, t5, t6, t7, t8⟩ := part_cells HX1.out
      have hx1 : w5.heap.size < x1.heap.size := (Array.getElem?_eq_some_iff.1 HX1.out).1
      go_wp2_with fail
      with_reducible refine (HG2.out _ ?k1 ?k2).mono ?_
      case k1 => exact HC1.out
      case k2 => exact strsArg.below HN.out (HB5.out.trans (HC1.out.mono HB5.out.size))
      rintro e x2 ⟨u2, rfl, hu, hb⟩
      have HU2 := Lib.hid hu
      have hg2 : Below x1.heap.size x1 x2 := hb
      have HX2 := Lib.hid ((hg2.block _ hx1).trans HX1.out)
      have HC2 := Lib.hid (HC1.out.trans (hg2.mono HC1.out.size))
      obtain ⟨uo2, uc2, rfl, _, _, _⟩ := HU2.out
      clear hu hb hg2 t0 t1 t2 t3 t4 t5 t6 t7 t8
      obtain ⟨t0, t1, t2, t3, t4, t5, t6, t7, t8⟩ := part_cells HX2.out
      have hx2 : w5.heap.size < x2.heap.size := (Array.getElem?_eq_some_iff.1 HX2.out).1
      go_wp2_with fail
      with_reducible refine (HG3.out _ _ 1 ?k1 ?k2).mono ?_
      case k1 => exact HC2.out.alloc HC2.out.size _
      case k2 => exact spF_name (p := []) (n := [58]) rfl (by decide) (rowOf_emp _)
      rintro e x3 ⟨u3, rfl, hu, hb⟩
      have HU3 := Lib.hid hu
      have hg3 : Below x2.heap.size x2 x3 := ((Below.refl _ _).alloc (Nat.le_refl _) _).trans (hb.mono (by simp))
      have HX3 := Lib.hid ((hg3.block _ hx2).trans HX2.out)
      have HC3 := Lib.hid (HC2.out.trans (hg3.mono HC2.out.size))
      obtain ⟨uo3, uc3, rfl, _, _, _⟩ := HU3.out
      clear hu hb hg3 t0 t1 t2 t3 t4 t5 t6 t7 t8
      obtain ⟨t0, t1, t2, t3, t4, t5, t6, t7, t8⟩ := part_cells HX3.out
      have hx3 : w5.heap.size < x3.heap.size := (Array.getElem?_eq_some_iff.1 HX3.out).1
      go_wp2_with fail
      with_reducible refine (HG4.out _ _ 1 ?k1 ?k2).mono ?_
      case k1 => exact HC3.out.alloc HC3.out.size _
      case k2 => exact spF_name (p := []) (n := [58]) rfl (by decide) (rowOf_emp _)
      rintro e x4 ⟨u4, rfl, hu, hb⟩
      have HU4 := Lib.hid hu
      have hg4 : Below x3.heap.size x3 x4 := ((Below.refl _ _).alloc (Nat.le_refl _) _).trans (hb.mono (by simp))
      have HX4 := Lib.hid ((hg4.block _ hx3).trans HX3.out)
      have HC4 := Lib.hid (HC3.out.trans (hg4.mono HC3.out.size))
      obtain ⟨uo4, uc4, rfl, _, _, _⟩ := HU4.out
      clear hu hb hg4 t0 t1 t2 t3 t4 t5 t6 t7 t8
      have k4 := bytesArg_string HU4.out
      have q3 : ((L1.length : Int) + (L2.length : Int) == (L3.length : Int) + 2) = true := beq_yes HSum.out
      clear HSum
      simp only [List.length_cons, List.length_nil] at k4 ⊢
      go_wp2_with fail
      go_ret
      exact ⟨ret_bool (by simp), HB5.out.trans (HC4.out.mono HB5.out.size)⟩
end Go.Proofs.YtahmhakdpmcdoaaGreatDoor
