/- Statement EnvelopePlain, for any texts. -/
import Derived.Test.YtbphnlaoiikebaaGreatDoorGbEnP
import Derived.Test.YtbphnlaoiikebaaGreatDoorGbEnH
import Derived.Test.YtbphnlaoiikebaaGreatDoorGbAdG
namespace Go.Proofs.YtbphnlaoiikebaaGreatDoor
open Go Go.RowKit

def kpL (s : ByteArray) : List UInt8 := s.data.toList.filter seenB
theorem kp_seen (s : ByteArray) : ∀ c ∈ kpL s, seenB c = true := fun _ hc => (List.mem_filter.1 hc).2
theorem kp_len (s : ByteArray) : (kpL s).length ≤ s.size := by
  unfold kpL
  rw [← len_toList]
  exact List.length_filter_le _ _
theorem kp_yes {s : ByteArray} {j : Nat} (h : j < s.size) (hs : seenB s[j] = true) : (s.data.toList.take (j + 1)).filter seenB = (s.data.toList.take j).filter seenB ++ [s[j]] := by
  have e : s.data.toList.take (j + 1) = s.data.toList.take j ++ [s[j]] := by
    rw [List.take_succ_eq_append_getElem (by simpa using h)]
    rfl
  rw [e, List.filter_append]
  simp [hs]
theorem kp_no {s : ByteArray} {j : Nat} (h : j < s.size) (hs : seenB s[j] = false) : (s.data.toList.take (j + 1)).filter seenB = (s.data.toList.take j).filter seenB := by
  have e : s.data.toList.take (j + 1) = s.data.toList.take j ++ [s[j]] := by
    rw [List.take_succ_eq_append_getElem (by simpa using h)]
    rfl
  rw [e, List.filter_append]
  simp [hs]
theorem one_byte (s : ByteArray) (k : Nat) (h : k < s.size) : (s.extract k (k + 1)).data.toList = [s[k]] := by
  rw [extract_toList, drop_cons s k h, Nat.add_sub_cancel_left]
  rfl
theorem part_tree (l : List UInt8) (hd : (treeS l).hd = (0, l.length)) (hbig : l.length ≤ 100000) : ∃ K q0 q1 q2 q3 : Int, ∀ W v, bytesArg W v l → env W → Calls Tryz.prog 11 #[v] W fun e w' => ∃ ka kn kc ca cn cc, e = .returned (.tuple #[.agg #[.int .i64 K, .int .i64 0, .int .i64 (l.length : Int), .int .i64 q0, .int .i64 q1, .slice ka kn kc, .slice ca cn cc, .int .i64 q2, .int .i64 q3], .int .i64 0]) ∧ Below W.heap.size W w' := by
  refine ⟨((treeS l).kind : Int), ((treeS l).bd.1 : Int), ((treeS l).bd.2 : Int), ((treeS l).e.1 : Int), ((treeS l).e.2 : Int), fun W v h hE => ?_⟩
  have := treeParse_any v l W h hbig hE
  unfold treePost at this
  rw [hd] at this
  exact this.mono fun e w' ⟨ka, kn, kc, ca, cn, cc, h1, _, h2⟩ => ⟨ka, kn, kc, ca, cn, cc, h1, h2⟩
theorem row_one {W : World} {v : Value} {c : UInt8} (h : rowAdx W v (plA c)) : ∃ g off k, v = .slice (some ⟨g, off, none⟩) 1 k ∧ 1 ≤ k ∧ g < W.heap.size ∧ W.cell? ⟨g, off + 2, none⟩ = some (.string ⟨#[c]⟩) := by
  obtain ⟨ao, cap, rfl, hc, _, hcells⟩ := h.at
  obtain ⟨g, off, rfl, hg, _, _, z2, _⟩ := hcells 0 (by simp [plA])
  exact ⟨g, off, cap, rfl, hc, hg, by simpa [plA] using z2⟩
theorem row_none {W : World} {v : Value} (h : rowAdx W v []) : ∃ a k, v = .slice a 0 k := by
  obtain ⟨ao, cap, rfl, _⟩ := h.at
  exact ⟨ao, cap, rfl⟩
theorem plain_of (s t : List UInt8) (has : Bool) (K q0 q1 q2 q3 : Int) (S T : ByteArray) (hS : S.data.toList = s) (hT : T.data.toList = t) (hs : ∀ c ∈ s, seenB c = true) (ht : ∀ c ∈ t, seenB c = true) (hbig : (msgH (hdsP s t has)).length ≤ 100000) :
    ∀ W v ka kn kc ca cn cc, bytesArg W v (msgH (hdsP s t has)) → Calls Tryz.prog 12 #[v, .agg #[.int .i64 K, .int .i64 0, .int .i64 ((msgH (hdsP s t has)).length : Int), .int .i64 q0, .int .i64 q1, .slice ka kn kc, .slice ca cn cc, .int .i64 q2, .int .i64 q3]] W fun e w' =>
      ∃ g0 o0 k0 g1 o1 k1 g2 o2 k2 a3 k3 a4 k4 a5 k5, e = .returned (.agg #[.string ⟨#[]⟩, .string S, .slice (some ⟨g0, o0, none⟩) 1 k0, .slice (some ⟨g1, o1, none⟩) 1 k1, .slice (some ⟨g2, o2, none⟩) 1 k2, .slice a3 0 k3, .slice a4 0 k4, .slice a5 0 k5, .string ⟨#[]⟩, .string T, .bool false, .bool true, .bool false, .bool true]) ∧
        1 ≤ k1 ∧ 1 ≤ k2 ∧ g1 < w'.heap.size ∧ g2 < w'.heap.size ∧ w'.cell? ⟨g1, o1 + 2, none⟩ = some (.string ⟨#[if has = true then 99 else 97]⟩) ∧ w'.cell? ⟨g2, o2 + 2, none⟩ = some (.string ⟨#[97]⟩) ∧ Below W.heap.size W w' := by
  intro W v ka kn kc ca cn cc h
  have := eof_any v (msgH (hdsP s t has)) 0 (msgH (hdsP s t has)).length K q0 q1 q2 q3 ka ca kn kc cn cc W h hbig (Nat.zero_le _) (Nat.le_refl _)
  unfold ofPost at this
  rw [msgH_fs _ (hdsP_ok s t has hs ht), plain_env s t has hs ht] at this
  refine this.mono fun e w' ⟨u0, u1, u2, u3, u4, u5, h1, h2, h3⟩ => ?_
  obtain ⟨g0, o0, k0, rfl, _, _, _⟩ := row_one h2.r0
  obtain ⟨g1, o1, k1, rfl, c1, l1, d1⟩ := row_one h2.r1
  obtain ⟨g2, o2, k2, rfl, c2, l2, d2⟩ := row_one h2.r2
  obtain ⟨a3, k3, rfl⟩ := row_none h2.r3
  obtain ⟨a4, k4, rfl⟩ := row_none h2.r4
  obtain ⟨a5, k5, rfl⟩ := row_none h2.r5
  have eS : S = ⟨s.toArray⟩ := bytes_eq (by rw [hS])
  have eT : T = ⟨t.toArray⟩ := bytes_eq (by rw [hT])
  subst eS eT
  exact ⟨g0, o0, k0, g1, o1, k1, g2, o2, k2, a3, k3, a4, k4, a5, k5, h1, c1, c2, l1, l2, d1, d2, h3⟩

set_option maxRecDepth 100000 in
set_option maxHeartbeats 16000000 in
theorem envelopePlain_any (x y : ByteArray) (has : Bool) (w : World) (hx : x.size ≤ 9223372036854775807) (hy : y.size ≤ 9223372036854775807) (he : env w) :
    Calls Tryz.prog 5 #[.string x, .string y, .bool has] w fun o w' => o = .returned (.bool true) ∧ Below w.heap.size w w' := by
  have HEn := Lib.hid he
  have HAw := Lib.hid (awake19_any w he)
  clear he
  by_cases hbig : 100 < x.size ∨ 100 < y.size
  · by_cases h1 : (100 : Int) < (x.size : Int)
    · clear hbig
      go_enter Tryz.func5, Tryz.ntmps5
      go_wp2_with fail
      with_reducible refine HAw.out.mono ?_
      rintro e w1 ⟨rfl, hb1⟩
      go_wp2_with fail
      go_ret
      exact ⟨rfl, hb1⟩
    · have h2 : (100 : Int) < (y.size : Int) := by omega
      clear hbig
      go_enter Tryz.func5, Tryz.ntmps5
      go_wp2_with fail
      with_reducible refine HAw.out.mono ?_
      rintro e w1 ⟨rfl, hb1⟩
      go_wp2_with fail
      go_ret
      exact ⟨rfl, hb1⟩
  have hx1 : ¬ (100 : Int) < (x.size : Int) := by omega
  have hy1 : ¬ (100 : Int) < (y.size : Int) := by omega
  have hxs : x.size ≤ 100 := by omega
  have hys : y.size ≤ 100 := by omega
  clear hbig hx hy
  go_enter Tryz.func5, Tryz.ntmps5
  go_wp2_with fail
  with_reducible refine HAw.out.mono ?_
  rintro e w1 ⟨rfl, hb1⟩
  have HB1 := Lib.hid hb1
  clear hb1 HAw
  go_wp2_with fail
  go_loopg [8, 9] x.size (fun g v8 v9 wr => ∃ (j : Nat) (U : ByteArray), g = x.size - j ∧ j ≤ x.size ∧ v9 = .int .i64 (j : Int) ∧ v8 = .string U ∧ U.size ≤ j ∧ Hid (U.data.toList = (x.data.toList.take j).filter seenB) ∧ w1 = wr)
  case atStart => exact ⟨0, ⟨#[]⟩, by omega, by omega, rfl, rfl, by decide, rfl, rfl⟩
  case round =>
    obtain ⟨j, U, rfl, hj, rfl, rfl, hU, HS, rfl⟩ := hrel
    by_cases hlt : j < x.size
    · have hd : ((j : Int) < (x.size : Int)) := by omega
      have hcb := byte_lt x[j]
      by_cases h32 : 32 < x[j].toNat
      · have b1 : (32 : Int) < (x[j].toNat : Int) := by omega
        by_cases h127 : x[j].toNat < 127
        · have b2 : (x[j].toNat : Int) < 127 := by omega
          have HN := Lib.hid (kp_yes hlt (decide_eq_true ⟨h32, h127⟩))
          have HOb := Lib.hid (one_byte x j hlt)
          have hsz := extract_size' x j (j + 1) (by omega)
          clear h32 h127
          go_wp2_with fail
          go_roundg (x.size - (j + 1))
          case measure => omega
          case rel =>
            refine ⟨j + 1, _, rfl, hlt, by go_num, rfl, ?_, ?_, rfl⟩
            · rw [ByteArray.size_append, hsz]
              omega
            · unfold Hid
              rw [HN.out, cat_toList, HOb.out, HS.out]
        · have b2 : ¬ (x[j].toNat : Int) < 127 := by omega
          have HN := Lib.hid (kp_no hlt (decide_eq_false (fun hh => h127 hh.2)))
          clear h32 h127
          go_wp2_with fail
          go_roundg (x.size - (j + 1))
          case measure => omega
          case rel => exact ⟨j + 1, _, rfl, hlt, by go_num, rfl, by omega, by unfold Hid; rw [HN.out, HS.out], rfl⟩
      · have b1 : ¬ (32 : Int) < (x[j].toNat : Int) := by omega
        have HN := Lib.hid (kp_no hlt (decide_eq_false (fun hh => h32 hh.1)))
        clear h32
        go_wp2_with fail
        go_roundg (x.size - (j + 1))
        case measure => omega
        case rel => exact ⟨j + 1, _, rfl, hlt, by go_num, rfl, by omega, by unfold Hid; rw [HN.out, HS.out], rfl⟩
    · obtain ⟨S, hS⟩ : ∃ S, S = U := ⟨_, rfl⟩
      rw [← hS] at hU HS ⊢
      have HSl : Hid (S.data.toList = kpL x) := by unfold Hid kpL; rw [HS.out, List.take_of_length_le (by simp; omega)]
      have hSz : S.size ≤ 100 := by omega
      clear hS HS
      go_wp2_with fail
      go_loopg [10, 11] y.size (fun g v8 v9 wr => ∃ (j : Nat) (U : ByteArray), g = y.size - j ∧ j ≤ y.size ∧ v9 = .int .i64 (j : Int) ∧ v8 = .string U ∧ U.size ≤ j ∧ Hid (U.data.toList = (y.data.toList.take j).filter seenB) ∧ w1 = wr)
      case atStart => exact ⟨0, ⟨#[]⟩, by omega, by omega, rfl, rfl, by decide, rfl, rfl⟩
      case round =>
        obtain ⟨j, U, rfl, hj, rfl, rfl, hU, HS, rfl⟩ := hrel
        by_cases hlt : j < y.size
        · have hd : ((j : Int) < (y.size : Int)) := by omega
          have hcb := byte_lt y[j]
          by_cases h32 : 32 < y[j].toNat
          · have b1 : (32 : Int) < (y[j].toNat : Int) := by omega
            by_cases h127 : y[j].toNat < 127
            · have b2 : (y[j].toNat : Int) < 127 := by omega
              have HN := Lib.hid (kp_yes hlt (decide_eq_true ⟨h32, h127⟩))
              have HOb := Lib.hid (one_byte y j hlt)
              have hsz := extract_size' y j (j + 1) (by omega)
              clear h32 h127
              go_wp2_with fail
              go_roundg (y.size - (j + 1))
              case measure => omega
              case rel =>
                refine ⟨j + 1, _, rfl, hlt, by go_num, rfl, ?_, ?_, rfl⟩
                · rw [ByteArray.size_append, hsz]
                  omega
                · unfold Hid
                  rw [HN.out, cat_toList, HOb.out, HS.out]
            · have b2 : ¬ (y[j].toNat : Int) < 127 := by omega
              have HN := Lib.hid (kp_no hlt (decide_eq_false (fun hh => h127 hh.2)))
              clear h32 h127
              go_wp2_with fail
              go_roundg (y.size - (j + 1))
              case measure => omega
              case rel => exact ⟨j + 1, _, rfl, hlt, by go_num, rfl, by omega, by unfold Hid; rw [HN.out, HS.out], rfl⟩
          · have b1 : ¬ (32 : Int) < (y[j].toNat : Int) := by omega
            have HN := Lib.hid (kp_no hlt (decide_eq_false (fun hh => h32 hh.1)))
            clear h32
            go_wp2_with fail
            go_roundg (y.size - (j + 1))
            case measure => omega
            case rel => exact ⟨j + 1, _, rfl, hlt, by go_num, rfl, by omega, by unfold Hid; rw [HN.out, HS.out], rfl⟩
        · obtain ⟨T, hT⟩ : ∃ T, T = U := ⟨_, rfl⟩
          rw [← hT] at hU HS ⊢
          have HTl : Hid (T.data.toList = kpL y) := by unfold Hid kpL; rw [HS.out, List.take_of_length_le (by simp; omega)]
          clear hT HS
          cases has with
          | true =>
            obtain ⟨V, hV⟩ : ∃ V : ByteArray, V = ⟨#[83, 117, 98, 106, 101, 99, 116, 58, 32]⟩ ++ S ++ ⟨#[13, 10, 77, 101, 115, 115, 97, 103, 101, 45, 73, 68, 58]⟩ ++ T ++ ⟨#[13, 10, 70, 114, 111, 109, 58, 32, 97, 64, 98, 13, 10]⟩ ++ ⟨#[83, 101, 110, 100, 101, 114, 58, 32, 99, 64, 100, 13, 10]⟩ ++ ⟨#[13, 10]⟩ := ⟨_, rfl⟩
            have hVl : V.data.toList = msgH (hdsP (kpL x) (kpL y) true) := by
              rw [hV]
              simp only [cat_toList, HSl.out, HTl.out]
              unfold msgH hdsP
              simp [joinC, txH, hSub, hMid, hFrm, hSnd, sbN, miN]
            have hVz : V.size ≤ 400 := by
              rw [hV]
              simp only [ByteArray.size_append]
              have e1 : (⟨#[83, 117, 98, 106, 101, 99, 116, 58, 32]⟩ : ByteArray).size = 9 := rfl
              have e2 : (⟨#[13, 10, 77, 101, 115, 115, 97, 103, 101, 45, 73, 68, 58]⟩ : ByteArray).size = 13 := rfl
              have e3 : (⟨#[13, 10, 70, 114, 111, 109, 58, 32, 97, 64, 98, 13, 10]⟩ : ByteArray).size = 13 := rfl
              have e4 : (⟨#[83, 101, 110, 100, 101, 114, 58, 32, 99, 64, 100, 13, 10]⟩ : ByteArray).size = 13 := rfl
              have e5 : (⟨#[13, 10]⟩ : ByteArray).size = 2 := rfl
              omega
            have hLl : (msgH (hdsP (kpL x) (kpL y) true)).length = V.size := by rw [← hVl, len_toList]
            obtain ⟨K, q0, q1, q2, q3, hpa⟩ := part_tree _ (msgH_tree _ (hdsP_ok (kpL x) (kpL y) true (kp_seen x) (kp_seen y))) (by omega)
            have hof := plain_of (kpL x) (kpL y) true K q0 q1 q2 q3 S T HSl.out HTl.out (kp_seen x) (kp_seen y) (by omega)
            rw [hLl, ← hVl] at hpa
            rw [hLl, ← hVl] at hof
            have HPa := Lib.hid hpa
            have HOf := Lib.hid hof
            obtain ⟨w2, cp2, hr2, ha2, hb2⟩ := conv_bytesArg (P := Tryz.prog) w1 9 39 5 V (by unfold maxLen; omega) Tryz.underlying9 Tryz.underlying39 Tryz.underlying5
            have HA2 := Lib.hid ha2
            have HB2 := Lib.hid (HB1.out.trans (hb2.mono HB1.out.size))
            obtain ⟨n, hn⟩ : ∃ n, n = V.size := ⟨_, rfl⟩
            rw [← hn] at hr2 HA2 HPa HOf hVz
            have HV := Lib.hid hV
            rw [hV] at hr2
            have HNn := Lib.hid hn
            clear hVl hLl hpa hof ha2 hb2 hV hn
            go_wp2_with fail
            with_reducible refine (HPa.out _ _ HA2.out (HEn.out.below HB2.out)).mono ?_
            rintro e w4 ⟨ka, kn, kc, ca, cn, cc, rfl, hb4⟩
            have HB4 := Lib.hid (HB2.out.trans (hb4.mono HB2.out.size))
            clear hb4 hr2 HPa HA2
            obtain ⟨Y, hY⟩ : ∃ Y, Y = w4.alloc (.cells #[.int .i64 K, .int .i64 0, .int .i64 (n : Int), .int .i64 q0, .int .i64 q1, .slice ka kn kc, .slice ca cn cc, .int .i64 q2, .int .i64 q3] 49) := ⟨_, rfl⟩
            have hYc : Y.heap[w4.heap.size]? = some (.cells #[.int .i64 K, .int .i64 0, .int .i64 (n : Int), .int .i64 q0, .int .i64 q1, .slice ka kn kc, .slice ca cn cc, .int .i64 q2, .int .i64 q3] 49 (0, 0)) := by rw [hY]; exact heap_alloc_new w4 _
            have HBY : Hid (Below w.heap.size w Y) := by rw [hY]; exact HB4.out.alloc HB4.out.size _
            obtain ⟨w5, cp5, hr5, ha5, hb5⟩ := conv_bytesArg (P := Tryz.prog) Y 9 39 5 V (by unfold maxLen; rw [← HNn.out]; omega) Tryz.underlying9 Tryz.underlying39 Tryz.underlying5
            have hc5 := (hb5.block w4.heap.size (Array.getElem?_eq_some_iff.1 hYc).1).trans hYc
            have x0 : w5.cell? ⟨w4.heap.size, 0, none⟩ = some (.int .i64 K) := by simp [World.cell?, hc5]
            have x1 : w5.cell? ⟨w4.heap.size, 1, none⟩ = some (.int .i64 0) := by simp [World.cell?, hc5]
            have x2 : w5.cell? ⟨w4.heap.size, 2, none⟩ = some (.int .i64 (n : Int)) := by simp [World.cell?, hc5]
            have x3 : w5.cell? ⟨w4.heap.size, 3, none⟩ = some (.int .i64 q0) := by simp [World.cell?, hc5]
            have x4 : w5.cell? ⟨w4.heap.size, 4, none⟩ = some (.int .i64 q1) := by simp [World.cell?, hc5]
            have x5 : w5.cell? ⟨w4.heap.size, 5, none⟩ = some (.slice ka kn kc) := by simp [World.cell?, hc5]
            have x6 : w5.cell? ⟨w4.heap.size, 6, none⟩ = some (.slice ca cn cc) := by simp [World.cell?, hc5]
            have x7 : w5.cell? ⟨w4.heap.size, 7, none⟩ = some (.int .i64 q2) := by simp [World.cell?, hc5]
            have x8 : w5.cell? ⟨w4.heap.size, 8, none⟩ = some (.int .i64 q3) := by simp [World.cell?, hc5]
            have HB5 := Lib.hid (HBY.out.trans (hb5.mono HBY.out.size))
            have HA5 := Lib.hid ha5
            rw [← HNn.out] at hr5 HA5
            have hYs : Y.heap.size = w4.heap.size + 1 := by rw [hY]; simp
            rw [hYs] at hr5 HA5
            rw [HV.out, hY] at hr5
            clear hYc hb5 ha5 hc5 HBY hY hYs
            go_wp2_with fail
            with_reducible refine (HOf.out _ _ _ _ _ _ _ _ HA5.out).mono ?_
            rintro e w6 ⟨g0, o0, k0, g1, o1, k1, g2, o2, k2, a3, k3, a4, k4, a5, k5, rfl, hk1, hk2, hg1, hg2, hd1, hd2, hb6⟩
            have HB6 := Lib.hid (HB5.out.trans (hb6.mono HB5.out.size))
            have hne1 : ¬ g1 = w6.heap.size := by omega
            have hne2 : ¬ g2 = w6.heap.size := by omega
            replace hd1 : w6.cell? ⟨g1, o1 + 2, none⟩ = some (.string ⟨#[99]⟩) := hd1
            clear hb6 hr5 HOf HA5 x0 x1 x2 x3 x4 x5 x6 x7 x8
            have eS : (S.toList == S.toList) = true := beq_self_eq_true _
            have eT : (T.toList == T.toList) = true := beq_self_eq_true _
            go_wp2_with fail
            go_ret
            exact ⟨rfl, HB6.out.alloc HB6.out.size _⟩
          | false =>
            obtain ⟨V, hV⟩ : ∃ V : ByteArray, V = ⟨#[83, 117, 98, 106, 101, 99, 116, 58, 32]⟩ ++ S ++ ⟨#[13, 10, 77, 101, 115, 115, 97, 103, 101, 45, 73, 68, 58]⟩ ++ T ++ ⟨#[13, 10, 70, 114, 111, 109, 58, 32, 97, 64, 98, 13, 10]⟩ ++ ⟨#[13, 10]⟩ := ⟨_, rfl⟩
            have hVl : V.data.toList = msgH (hdsP (kpL x) (kpL y) false) := by
              rw [hV]
              simp only [cat_toList, HSl.out, HTl.out]
              unfold msgH hdsP
              simp [joinC, txH, hSub, hMid, hFrm, sbN, miN]
            have hVz : V.size ≤ 400 := by
              rw [hV]
              simp only [ByteArray.size_append]
              have e1 : (⟨#[83, 117, 98, 106, 101, 99, 116, 58, 32]⟩ : ByteArray).size = 9 := rfl
              have e2 : (⟨#[13, 10, 77, 101, 115, 115, 97, 103, 101, 45, 73, 68, 58]⟩ : ByteArray).size = 13 := rfl
              have e3 : (⟨#[13, 10, 70, 114, 111, 109, 58, 32, 97, 64, 98, 13, 10]⟩ : ByteArray).size = 13 := rfl
              have e5 : (⟨#[13, 10]⟩ : ByteArray).size = 2 := rfl
              omega
            have hLl : (msgH (hdsP (kpL x) (kpL y) false)).length = V.size := by rw [← hVl, len_toList]
            obtain ⟨K, q0, q1, q2, q3, hpa⟩ := part_tree _ (msgH_tree _ (hdsP_ok (kpL x) (kpL y) false (kp_seen x) (kp_seen y))) (by omega)
            have hof := plain_of (kpL x) (kpL y) false K q0 q1 q2 q3 S T HSl.out HTl.out (kp_seen x) (kp_seen y) (by omega)
            rw [hLl, ← hVl] at hpa
            rw [hLl, ← hVl] at hof
            have HPa := Lib.hid hpa
            have HOf := Lib.hid hof
            obtain ⟨w2, cp2, hr2, ha2, hb2⟩ := conv_bytesArg (P := Tryz.prog) w1 9 39 5 V (by unfold maxLen; omega) Tryz.underlying9 Tryz.underlying39 Tryz.underlying5
            have HA2 := Lib.hid ha2
            have HB2 := Lib.hid (HB1.out.trans (hb2.mono HB1.out.size))
            obtain ⟨n, hn⟩ : ∃ n, n = V.size := ⟨_, rfl⟩
            rw [← hn] at hr2 HA2 HPa HOf hVz
            have HV := Lib.hid hV
            rw [hV] at hr2
            have HNn := Lib.hid hn
            clear hVl hLl hpa hof ha2 hb2 hV hn
            go_wp2_with fail
            with_reducible refine (HPa.out _ _ HA2.out (HEn.out.below HB2.out)).mono ?_
            rintro e w4 ⟨ka, kn, kc, ca, cn, cc, rfl, hb4⟩
            have HB4 := Lib.hid (HB2.out.trans (hb4.mono HB2.out.size))
            clear hb4 hr2 HPa HA2
            obtain ⟨Y, hY⟩ : ∃ Y, Y = w4.alloc (.cells #[.int .i64 K, .int .i64 0, .int .i64 (n : Int), .int .i64 q0, .int .i64 q1, .slice ka kn kc, .slice ca cn cc, .int .i64 q2, .int .i64 q3] 49) := ⟨_, rfl⟩
            have hYc : Y.heap[w4.heap.size]? = some (.cells #[.int .i64 K, .int .i64 0, .int .i64 (n : Int), .int .i64 q0, .int .i64 q1, .slice ka kn kc, .slice ca cn cc, .int .i64 q2, .int .i64 q3] 49 (0, 0)) := by rw [hY]; exact heap_alloc_new w4 _
            have HBY : Hid (Below w.heap.size w Y) := by rw [hY]; exact HB4.out.alloc HB4.out.size _
            obtain ⟨w5, cp5, hr5, ha5, hb5⟩ := conv_bytesArg (P := Tryz.prog) Y 9 39 5 V (by unfold maxLen; rw [← HNn.out]; omega) Tryz.underlying9 Tryz.underlying39 Tryz.underlying5
            have hc5 := (hb5.block w4.heap.size (Array.getElem?_eq_some_iff.1 hYc).1).trans hYc
            have x0 : w5.cell? ⟨w4.heap.size, 0, none⟩ = some (.int .i64 K) := by simp [World.cell?, hc5]
            have x1 : w5.cell? ⟨w4.heap.size, 1, none⟩ = some (.int .i64 0) := by simp [World.cell?, hc5]
            have x2 : w5.cell? ⟨w4.heap.size, 2, none⟩ = some (.int .i64 (n : Int)) := by simp [World.cell?, hc5]
            have x3 : w5.cell? ⟨w4.heap.size, 3, none⟩ = some (.int .i64 q0) := by simp [World.cell?, hc5]
            have x4 : w5.cell? ⟨w4.heap.size, 4, none⟩ = some (.int .i64 q1) := by simp [World.cell?, hc5]
            have x5 : w5.cell? ⟨w4.heap.size, 5, none⟩ = some (.slice ka kn kc) := by simp [World.cell?, hc5]
            have x6 : w5.cell? ⟨w4.heap.size, 6, none⟩ = some (.slice ca cn cc) := by simp [World.cell?, hc5]
            have x7 : w5.cell? ⟨w4.heap.size, 7, none⟩ = some (.int .i64 q2) := by simp [World.cell?, hc5]
            have x8 : w5.cell? ⟨w4.heap.size, 8, none⟩ = some (.int .i64 q3) := by simp [World.cell?, hc5]
            have HB5 := Lib.hid (HBY.out.trans (hb5.mono HBY.out.size))
            have HA5 := Lib.hid ha5
            rw [← HNn.out] at hr5 HA5
            have hYs : Y.heap.size = w4.heap.size + 1 := by rw [hY]; simp
            rw [hYs] at hr5 HA5
            rw [HV.out, hY] at hr5
            clear hYc hb5 ha5 hc5 HBY hY hYs
            go_wp2_with fail
            with_reducible refine (HOf.out _ _ _ _ _ _ _ _ HA5.out).mono ?_
            rintro e w6 ⟨g0, o0, k0, g1, o1, k1, g2, o2, k2, a3, k3, a4, k4, a5, k5, rfl, hk1, hk2, hg1, hg2, hd1, hd2, hb6⟩
            have HB6 := Lib.hid (HB5.out.trans (hb6.mono HB5.out.size))
            have hne1 : ¬ g1 = w6.heap.size := by omega
            have hne2 : ¬ g2 = w6.heap.size := by omega
            replace hd1 : w6.cell? ⟨g1, o1 + 2, none⟩ = some (.string ⟨#[97]⟩) := hd1
            clear hb6 hr5 HOf HA5 x0 x1 x2 x3 x4 x5 x6 x7 x8
            have eS : (S.toList == S.toList) = true := beq_self_eq_true _
            have eT : (T.toList == T.toList) = true := beq_self_eq_true _
            go_wp2_with fail
            go_ret
            exact ⟨rfl, HB6.out.alloc HB6.out.size _⟩
end Go.Proofs.YtbphnlaoiikebaaGreatDoor
