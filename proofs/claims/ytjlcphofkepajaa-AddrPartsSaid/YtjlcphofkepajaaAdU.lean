/- Statement AddrParts, for any texts. -/
import Derived.Test.YtjlcphofkepajaaAdS
namespace Go.Proofs.Ytjlcphofkepajaa
open Go Go.RowKit

theorem listA_len {l : List UInt8} {la : List Adr} (h : listA l = some la) : la.length ≤ 2 * l.length := by
  obtain ⟨_, hx⟩ := listT_some h
  have h1 := itemsT_len itemT_fair ((toksA l).1.length + 1) (toksA l).1
  rw [hx] at h1
  have h2 := wt_len (toksA l).1
  have h3 := toksA_wt _ l (Nat.le_refl _)
  simp at h1
  omega
set_option maxRecDepth 100000 in
set_option maxHeartbeats 8000000 in
theorem parts_shut (a b : ByteArray) (la lb : List Adr) (w : World) (ha : a.size ≤ 150) (hb : b.size ≤ 150) (hla : listA a.data.toList = some la) (hlb : listA b.data.toList = some lb) (hO : a.data.toList.any opensB = false) :
    Calls Try.prog 3 #[.string a, .string b] w fun e w' => e = .returned (.bool true) ∧ Below w.heap.size w w' := by
  have HAw := Lib.hid (awake_any10 w)
  have h1 : ¬ (150 : Int) < (a.size : Int) := by omega
  have h2 : ¬ (150 : Int) < (b.size : Int) := by omega
  have H1 := Lib.hid (fun W => list_some a la W (by omega) hla)
  have H2 := Lib.hid (fun W => list_some b lb W (by omega) hlb)
  have hcs : (a ++ ⟨#[44]⟩ ++ b).size ≤ 1000000000 := by simp only [ByteArray.size_append]; show a.size + 1 + b.size ≤ _; omega
  have hds : ((⟨#[32, 40, 99, 40, 100, 41, 41, 32]⟩ : ByteArray) ++ a ++ ⟨#[9, 40, 101, 41]⟩).size ≤ 1000000000 := by simp only [ByteArray.size_append]; show 8 + a.size + 4 ≤ _; omega
  have HC := Lib.hid (fun W => list_some (a ++ ⟨#[44]⟩ ++ b) (la ++ lb) W hcs (by rw [cat_comma]; exact listA_comma hla hlb (shut_of hO)))
  have HD := Lib.hid (fun W => list_some ((⟨#[32, 40, 99, 40, 100, 41, 41, 32]⟩ : ByteArray) ++ a ++ ⟨#[9, 40, 101, 41]⟩) la W hds (by rw [cat_within]; exact listA_within hla (shut_of hO)))
  have HN : Hid (∀ j, (h : j < a.size) → a[j].toNat ≠ 40 ∧ a[j].toNat ≠ 34 ∧ a[j].toNat ≠ 91) := by
    intro j h
    have hm : a[j] ∈ a.data.toList := by simp [ByteArray.getElem_eq_getElem_data]
    obtain ⟨e1, e2, e3⟩ := shut_of hO a[j] hm
    exact ⟨fun e => e1 (toNat_eq e), fun e => e2 (toNat_eq e), fun e => e3 (toNat_eq e)⟩
  have hlx : la.length ≤ 300 := by have := listA_len hla; rw [len_toList] at this; omega
  have hly : lb.length ≤ 300 := by have := listA_len hlb; rw [len_toList] at this; omega
  clear hla hlb hO hcs hds
  go_enter Try.func3, Try.ntmps3
  go_wp2_with fail
  with_reducible refine HAw.out.mono ?_
  rintro e w1 ⟨rfl, hb1⟩
  have HB1 := Lib.hid hb1
  clear hb1
  go_wp2_with fail
  with_reducible refine (H1.out _).mono ?_
  rintro e w2 ⟨v2, rfl, hr2, hb2⟩
  have HB2 := Lib.hid (HB1.out.trans (hb2.mono HB1.out.size))
  have HX2 := Lib.hid hr2
  obtain ⟨ao, cap, rfl, hxc, hxm, _⟩ := hr2
  clear hb2
  go_wp2_with fail
  with_reducible refine (H2.out _).mono ?_
  rintro e w3 ⟨v3, rfl, hr3, hb3⟩
  have HB3 := Lib.hid (HB2.out.trans (hb3.mono HB2.out.size))
  have HX3 := Lib.hid (HX2.out.below hb3)
  have HY3 := Lib.hid hr3
  obtain ⟨bo, cbp, rfl, hyc, hym, _⟩ := hr3
  clear hb3 HX2
  go_wp2_with fail
  with_reducible refine (HC.out _).mono ?_
  rintro e w4 ⟨v4, rfl, hr4, hb4⟩
  have HB4 := Lib.hid (HB3.out.trans (hb4.mono HB3.out.size))
  obtain ⟨_, _, ex, _, _, hxs⟩ := (HX3.out.below hb4).at
  cases ex
  obtain ⟨_, _, ey, _, _, hys⟩ := (HY3.out.below hb4).at
  cases ey
  obtain ⟨zo, zc, rfl, hzc, hzm, hzs⟩ := hr4.at
  have hzl : (la ++ lb).length = la.length + lb.length := List.length_append
  have HXS := Lib.hid hxs
  have HYS := Lib.hid hys
  have HZS := Lib.hid hzs
  have HGL := Lib.hid (fun i (h : i < la.length) => adr_get_left (lb := lb) h)
  have HGR := Lib.hid (fun i m (h2 : i < (la ++ lb).length) (hm : m < lb.length) (h : i = la.length + m) => adr_get_right h2 hm h)
  obtain ⟨nz, hnz⟩ : ∃ nz, nz = (la ++ lb).length := ⟨_, rfl⟩
  obtain ⟨nx, hnx⟩ : ∃ nx, nx = la.length := ⟨_, rfl⟩
  obtain ⟨ny, hny⟩ : ∃ ny, ny = lb.length := ⟨_, rfl⟩
  rw [← hnz] at hzc hzl ⊢
  rw [← hnx] at hxc hzl hlx ⊢
  rw [← hny] at hyc hzl hly ⊢
  unfold maxLen at hxm hym hzm
  have bz : (((nz : Nat) : Int) != (nx : Int) + (ny : Int)) = false := by rw [bne, beq_yes (by omega)]; rfl
  have bx : (((nx : Nat) : Int) == ((nx : Nat) : Int)) = true := beq_yes rfl
  have HNX := Lib.hid hnx
  have HNY := Lib.hid hny
  have HNZ := Lib.hid hnz
  have HZL := Lib.hid hzl
  clear hb4 hr4 hxs hys hzs hnz hnx hny hzl HX3 HY3
  go_wp2_with fail
  go_loopg [12, 13] a.size (fun g v12 v13 wr => ∃ (j : Nat), g = a.size - j ∧ j ≤ a.size ∧ v13 = .int .i64 (j : Int) ∧ v12 = .bool false ∧ w4 = wr)
  case atStart => exact ⟨0, by omega, by omega, rfl, rfl, rfl⟩
  case round =>
    obtain ⟨j, rfl, hj, rfl, rfl, rfl⟩ := hrel
    by_cases hlt : j < a.size
    · obtain ⟨c1, c2, c3⟩ := HN.out j hlt
      have b1 : (((a[j].toNat : Nat) : Int) == 40) = false := beq_no (by omega)
      have b2 : (((a[j].toNat : Nat) : Int) == 34) = false := beq_no (by omega)
      have b3 : (((a[j].toNat : Nat) : Int) == 91) = false := beq_no (by omega)
      clear c1 c2 c3
      go_wp2_with fail
      go_roundg (a.size - (j + 1))
      case measure => omega
      case rel => exact ⟨j + 1, rfl, by omega, by go_num, rfl, rfl⟩
    · go_wp2_with fail
      go_loopg [14] nz (fun g v14 wr => ∃ (i : Nat), g = nz - i ∧ i ≤ nz ∧ v14 = .int .i64 (i : Int) ∧ Hid (Below w4.heap.size w4 wr))
      case atStart => exact ⟨0, by omega, by omega, rfl, Below.refl _ _⟩
      case round =>
        obtain ⟨i, rfl, hi, rfl, HBr⟩ := hrel
        by_cases hiz : i < nz
        · obtain ⟨gz, rfl, hgz, z0, z1, z2, z3⟩ := HZS.out i (by have := HNZ.out; omega)
          have q0 := (HBr.out.cell (p := ⟨gz, i * 4, none⟩) hgz).trans z0
          have q1 := (HBr.out.cell (p := ⟨gz, i * 4 + 1, none⟩) hgz).trans z1
          have q2 := (HBr.out.cell (p := ⟨gz, i * 4 + 2, none⟩) hgz).trans z2
          have q3 := (HBr.out.cell (p := ⟨gz, i * 4 + 3, none⟩) hgz).trans z3
          clear z0 z1 z2 z3
          by_cases hix : i < nx
          · have hil : i < la.length := by have := HNX.out; omega
            obtain ⟨gx, rfl, hgx, z0, z1, z2, z3⟩ := HXS.out i hil
            have e := HGL.out i hil
            rw [e] at q0 q1 q2 q3
            have p0 := (HBr.out.cell (p := ⟨gx, i * 4, none⟩) hgx).trans z0
            have p1 := (HBr.out.cell (p := ⟨gx, i * 4 + 1, none⟩) hgx).trans z1
            have p2 := (HBr.out.cell (p := ⟨gx, i * 4 + 2, none⟩) hgx).trans z2
            have p3 := (HBr.out.cell (p := ⟨gx, i * 4 + 3, none⟩) hgx).trans z3
            obtain ⟨K, hK⟩ : ∃ K : Int, K = ((la[i]).kind : Int) := ⟨_, rfl⟩
            obtain ⟨S1, hS1⟩ : ∃ S : ByteArray, S = ⟨(la[i]).name.toArray⟩ := ⟨_, rfl⟩
            obtain ⟨S2, hS2⟩ : ∃ S : ByteArray, S = ⟨(la[i]).loc.toArray⟩ := ⟨_, rfl⟩
            obtain ⟨S3, hS3⟩ : ∃ S : ByteArray, S = ⟨(la[i]).host.toArray⟩ := ⟨_, rfl⟩
            rw [← hK] at q0 p0
            rw [← hS1] at q1 p1
            rw [← hS2] at q2 p2
            rw [← hS3] at q3 p3
            have g1 : decide (nx ≤ i) = false := decide_eq_false (by omega)
            have g2 : decide ((nx : Int) ≤ (i : Int)) = false := decide_eq_false (by omega)
            have g3 : ¬ nx ≤ i := by omega
            have g4 : decide (i < nx) = true := decide_eq_true hix
            clear z0 z1 z2 z3 e hil hK hS1 hS2 hS3
            go_wp2_with fail
            go_quiet (fail)
            go_wp2_with fail
            go_roundg (nz - (i + 1))
            case measure => omega
            case rel => exact ⟨i + 1, rfl, by omega, by go_num, HBr.out.trans ((below_drewN' _).mono HBr.out.size)⟩
          · have hil : ¬ i < la.length := by have := HNX.out; omega
            obtain ⟨m, hm⟩ : ∃ m, i = la.length + m := ⟨i - la.length, by omega⟩
            have hir : m < lb.length := by have := HNX.out; have := HNY.out; have := HZL.out; omega
            obtain ⟨gx, rfl, hgx, z0, z1, z2, z3⟩ := HYS.out m hir
            have e := HGR.out i m (by have := HNZ.out; omega) hir hm
            rw [e] at q0 q1 q2 q3
            have hmi : (i : Int) = (nx : Int) + (m : Int) := by have := HNX.out; omega
            have p0 := (HBr.out.cell (p := ⟨gx, m * 4, none⟩) hgx).trans z0
            have p1 := (HBr.out.cell (p := ⟨gx, m * 4 + 1, none⟩) hgx).trans z1
            have p2 := (HBr.out.cell (p := ⟨gx, m * 4 + 2, none⟩) hgx).trans z2
            have p3 := (HBr.out.cell (p := ⟨gx, m * 4 + 3, none⟩) hgx).trans z3
            obtain ⟨K, hK⟩ : ∃ K : Int, K = ((lb[m]).kind : Int) := ⟨_, rfl⟩
            obtain ⟨S1, hS1⟩ : ∃ S : ByteArray, S = ⟨(lb[m]).name.toArray⟩ := ⟨_, rfl⟩
            obtain ⟨S2, hS2⟩ : ∃ S : ByteArray, S = ⟨(lb[m]).loc.toArray⟩ := ⟨_, rfl⟩
            obtain ⟨S3, hS3⟩ : ∃ S : ByteArray, S = ⟨(lb[m]).host.toArray⟩ := ⟨_, rfl⟩
            rw [← hK] at q0 p0
            rw [← hS1] at q1 p1
            rw [← hS2] at q2 p2
            rw [← hS3] at q3 p3
            have g1 : decide (nx ≤ i) = true := decide_eq_true (by omega)
            have g2 : decide ((nx : Int) ≤ (i : Int)) = true := decide_eq_true (by omega)
            have g3 : nx ≤ i := by omega
            have g4 : decide (i < nx) = false := decide_eq_false hix
            have hmy : m < ny := by have := HNY.out; omega
            have em : (i : Int) - (nx : Int) = (m : Int) := by omega
            have em2 : ((i : Int) - (nx : Int)).toNat = m := by omega
            have hx3 : (nx : Int) ≤ (i : Int) := by omega
            clear z0 z1 z2 z3 e hil hir hm hK hS1 hS2 hS3 hmi
            go_wp2_with fail
            go_quiet (fail)
            go_wp2_with fail
            go_roundg (nz - (i + 1))
            case measure => omega
            case rel => exact ⟨i + 1, rfl, by omega, by go_num, HBr.out.trans ((below_drewN' _).mono HBr.out.size)⟩
        · go_wp2_with fail
          with_reducible refine (HD.out _).mono ?_
          rintro e w6 ⟨v6, rfl, hr6, hb6⟩
          have HB6 := Lib.hid ((HB4.out.trans (HBr.out.mono HB4.out.size)).trans (hb6.mono (Nat.le_trans HB4.out.size HBr.out.size)))
          obtain ⟨uo, uc, rfl, _, _, _⟩ := hr6
          rw [← HNX.out]
          clear hb6
          go_wp2_with fail
          go_ret
          exact ⟨rfl, HB6.out⟩
end Go.Proofs.Ytjlcphofkepajaa
