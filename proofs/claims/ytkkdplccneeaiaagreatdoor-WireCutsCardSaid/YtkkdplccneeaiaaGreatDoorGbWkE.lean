/- Layer 18: the laws: WireLeft. -/
import Derived.Test.YtkkdplccneeaiaaGreatDoorGbWkD
import Derived.Test.YtkkdplccneeaiaaGreatDoorStrs
namespace Go.Proofs.YtkkdplccneeaiaaGreatDoor
open Go Go.RowKit

theorem made_zero (M : Nat) : (madeCells #[.int .u8 0] M).toList = (List.replicate M (0 : UInt8)).map byteV := by
  simp [madeCells, byteV]
  refine List.ext_getElem (by simp) (fun i h1 h2 => ?_)
  simp [Nat.mod_one]
theorem ps_nil {ps : List (Ev × Value)} (h : ps.map Prod.fst = []) : ps = [] := List.map_eq_nil_iff.1 h
set_option maxRecDepth 100000 in
set_option maxHeartbeats 16000000 in
theorem wireLeft_any (nb kb : UInt8) (w : World) (ht : tab w) :
    Calls Tryz.prog 6 #[.int .u8 (nb.toNat : Int), .int .u8 (kb.toNat : Int)] w fun e w' => e = .returned (.bool true) ∧ Below w.heap.size w w' := by
  have HAw := Lib.hid (awake18_any w ht)
  obtain ⟨N, hN⟩ : ∃ N, N = nb.toNat % 60 := ⟨_, rfl⟩
  obtain ⟨M, hM⟩ : ∃ M, M = kb.toNat % 40 := ⟨_, rfl⟩
  have hN60 : N < 60 := by omega
  have hM40 : M < 40 := by omega
  have n1 : (nb.toNat : Int) % 60 = (N : Int) := by omega
  have n2 : (nb.toNat : Int).tmod 60 = (N : Int) := by rw [Int.tmod_eq_emod_of_nonneg (by omega)]; exact n1
  have m1 : (kb.toNat : Int) % 40 = (M : Int) := by omega
  have m2 : (kb.toNat : Int).tmod 40 = (M : Int) := by rw [Int.tmod_eq_emod_of_nonneg (by omega)]; exact m1
  have wN8 : IntKind.u8.wrap (N : Int) = (N : Int) := by show (N : Int) % 256 = _; omega
  have wM8 : IntKind.u8.wrap (M : Int) = (M : Int) := by show (M : Int) % 256 = _; omega
  have HDg := Lib.hid (fun W => digits18_any M hM40 W)
  have kc := fun (w : World) (C : Array Value) (n c : Nat) => Lib.run_convert_bytes_const (P := Tryz.prog) w 29 5 C n c Tryz.underlying29 Tryz.underlying5
  clear ht hN hM
  go_enter Tryz.func6, Tryz.ntmps6
  go_wp2_with fail
  with_reducible refine HAw.out.mono ?_
  rintro e w1 ⟨rfl, hb1⟩
  have HB1 := Lib.hid hb1
  obtain ⟨w2, hw2⟩ : ∃ x, x = w1.alloc (.cells #[.slice none 0 0, .int .i64 0, .int .i64 0, .int .i64 0] 34) := ⟨_, rfl⟩
  have HB2 : Hid (Below w1.heap.size w1 w2) := by unfold Hid; rw [hw2]; exact (Below.refl _ _).alloc (Nat.le_refl _) _
  have HF2 : Hid (FrAt w2 w1.heap.size w1.heap.size (.slice none 0 0) (aS 0)) := frAt_new hw2 rfl
  have HW2 := Lib.hid hw2
  have HFd := Lib.hid (fun v a s c W (h : FrAt W w1.heap.size w1.heap.size v s) (ha : bytesArg W a c) hb => wfeed_any w1.heap.size w1.heap.size v a s c W h ha hb (Nat.le_refl _))
  unfold FdW at HFd
  have HLf := Lib.hid (fun v s W (h : FrAt W w1.heap.size w1.heap.size v s) => wleft_any w1.heap.size w1.heap.size v s W h)
  clear hb1 hw2 HAw
  go_upto_region 5 with fail
  rw [← HW2.out]
  go_wp2_with fail
  go_loopg [7, 8] N (fun g i x8 wr => ∃ (k : Nat) (v : Value), g = N - k ∧ k ≤ N ∧ i = .int .i64 (k : Int) ∧ Hid (FrAt wr w1.heap.size w1.heap.size v (aS k)) ∧ Hid (Below w1.heap.size w1 wr))
  case atStart => exact ⟨0, _, by omega, by omega, rfl, HF2.out, HB2.out⟩
  case round =>
    obtain ⟨k, v, rfl, hk, rfl, HF, HB⟩ := hrel
    by_cases hlt : k < N
    · have hd : (k : Int) < (N : Int) := by omega
      obtain ⟨wla, hwla⟩ : ∃ x, x = wr.alloc (.cells #[.int .u8 97] 5 (1, 2)) := ⟨_, rfl⟩
      have hbla : Below wr.heap.size wr wla := by rw [hwla]; exact (Below.refl _ _).alloc (Nat.le_refl _) _
      have HWla := Lib.hid hwla
      have HFla := Lib.hid (HF.out.below hbla)
      have HBla := Lib.hid (HB.out.trans (hbla.mono HB.out.size))
      have hAla : bytesArg wla (.slice (some ⟨wr.heap.size, 0, none⟩) 1 1) [97] := bytesArg_lit [97] hwla rfl rfl (by decide)
      have HCa := Lib.hid (HFd.out _ _ (aS k) [97] wla HFla.out hAla (by unfold aS; simp; omega))
      rw [feed_a k (by omega)] at HCa
      clear hbla hwla hAla
      go_upto_region 9 with (first | (go_at_call 15; rw [← HWla.out]; with_reducible refine HCa.out.mono ?_; rintro e w4 ⟨u4, ps4, v4, H4, rfl, hf4, hp4, ho4, hH4, hv4, he4, hb4, hk4⟩))
      try simp only at hf4 hp4
      obtain rfl := ps_nil hp4
      obtain ⟨ao4, cap4, rfl⟩ := row2_len ho4
      have HF4 := Lib.hid hf4
      have HLe4 := Lib.hid (HLf.out _ _ w4 HF4.out)
      have HB4 := Lib.hid (HBla.out.trans hb4)
      have hkl : (aS (k + 1)).l.length = k + 1 := by unfold aS; simp
      rw [hkl] at HLe4
      have hl0 : ([] : List (Ev × Value)).length = 0 := rfl
      rw [hl0]
      have HK1 : Hid (((k + 1 : Nat) : Int) = (k : Int) + 1) := by unfold Hid; omega
      rw [HK1.out] at HLe4
      clear hf4 hp4 ho4 hH4 hv4 he4 hb4 hk4 hkl HCa
      go_wp2_with fail
      with_reducible refine HLe4.out.mono ?_
      rintro e w5 ⟨rfl, rfl⟩
      go_wp2_with fail
      go_roundg (N - (k + 1))
      case measure => omega
      case rel => exact ⟨k + 1, v4, rfl, hlt, by go_num, HF4.out, HB4.out⟩
    · obtain rfl : k = N := by omega
      have hd : ¬ (k : Int) < (k : Int) := by omega
      obtain ⟨wlb, hwlb⟩ : ∃ x, x = wr.alloc (.cells #[.int .u8 13] 5 (1, 2)) := ⟨_, rfl⟩
      have hblb : Below wr.heap.size wr wlb := by rw [hwlb]; exact (Below.refl _ _).alloc (Nat.le_refl _) _
      have HWlb := Lib.hid hwlb
      have HFlb := Lib.hid (HF.out.below hblb)
      have HBlb := Lib.hid (HB.out.trans (hblb.mono HB.out.size))
      have hAlb : bytesArg wlb (.slice (some ⟨wr.heap.size, 0, none⟩) 1 1) [13] := bytesArg_lit [13] hwlb rfl rfl (by decide)
      have HCb := Lib.hid (HFd.out _ _ (aS k) [13] wlb HFlb.out hAlb (by unfold aS; simp; omega))
      rw [feed_cr k (by omega)] at HCb
      clear hblb hwlb hAlb
      go_upto_region 12 with (first | (go_at_call 15; rw [← HWlb.out]; with_reducible refine HCb.out.mono ?_; rintro e wb ⟨ub, psb, vb, Hb, rfl, hfb, hpb, hob, hHb, hvb, heb, hbb, hkb⟩))
      try simp only at hfb hpb
      obtain rfl := ps_nil hpb
      obtain ⟨aob, capb, rfl⟩ := row2_len hob
      have HFb := Lib.hid hfb
      have HBb := Lib.hid (HBlb.out.trans hbb)
      clear hfb hpb hob hHb hvb heb hbb hkb HCb
      obtain ⟨wlc, hwlc⟩ : ∃ x, x = wb.alloc (.cells #[.int .u8 10, .int .u8 120, .int .u8 121] 5 (3, 4)) := ⟨_, rfl⟩
      have hblc : Below wb.heap.size wb wlc := by rw [hwlc]; exact (Below.refl _ _).alloc (Nat.le_refl _) _
      have HWlc := Lib.hid hwlc
      have HFlc := Lib.hid (HFb.out.below hblc)
      have HBlc := Lib.hid (HBb.out.trans (hblc.mono HBb.out.size))
      have hAlc : bytesArg wlc (.slice (some ⟨wb.heap.size, 0, none⟩) 3 3) [10, 120, 121] := bytesArg_lit [10, 120, 121] hwlc rfl rfl (by decide)
      have HCc := Lib.hid (HFd.out _ _ (crS k) [10, 120, 121] wlc HFlc.out hAlc (by unfold crS; simp; omega))
      rw [feed_xy k (by omega)] at HCc
      clear hblc hwlc hAlc
      go_upto_region 13 with (first | (go_at_call 15; rw [← HWlc.out]; with_reducible refine HCc.out.mono ?_; rintro e wc ⟨uc, psc, vc, Hc, rfl, hfc, hpc, hoc, hHc, hvc, hec, hbc, hkc⟩))
      try simp only at hfc hpc
      obtain ⟨xc, rfl⟩ := ps_one hpc
      obtain ⟨gc, capc, rfl, hcpc, hgc, hglc, hcc⟩ := row2_read hoc (Nat.zero_lt_one)
      have kc : wc.cell? ⟨gc, 0, none⟩ = some (.int .i64 (2)) := hcc 0 (by show 0 < 2; decide)
      have xc1 : wc.cell? ⟨gc, 1, none⟩ = some xc := hcc 1 (by show 1 < 2; decide)
      have HFc := Lib.hid hfc
      have HBc := Lib.hid (HBlc.out.trans hbc)
      have hcpc' : 1 ≤ capc := hcpc
      obtain ⟨gx, ox, rfl, hgx, hgxl, hmx, hsx⟩ := hec _ (List.mem_singleton.2 rfl)
      rw [List.length_replicate] at xc1
      have hnc : ([(Ev.cmd (List.replicate k 97), Value.slice (some ⟨gx, ox, none⟩) (List.replicate k (97 : UInt8)).length (List.replicate k (97 : UInt8)).length)] : List (Ev × Value)).length = 1 := rfl
      rw [hnc]
      have HLc := Lib.hid (HLf.out _ _ wc HFc.out)
      have hkl : xyS.l.length = 2 := rfl
      rw [hkl] at HLc
      clear hfc hpc hoc hHc hvc hec hbc hkc hcc hnc hkl HCc hgx hgxl hmx hsx hcpc
      go_wp2_with (first | (go_at_call 16; with_reducible refine HLc.out.mono ?_; rintro e wc2 ⟨rfl, rfl⟩))
      have HBq := Lib.hid HBc.out
      go_upto_region 16 with fail
      obtain ⟨S, hS⟩ : ∃ S : ByteArray, S = ⟨(Lib.itoa (M : Int)).toArray⟩ := ⟨_, rfl⟩
      have hSl : S.data.toList = Lib.itoa (M : Int) := by rw [hS]
      have hSz : S.size ≤ 21 := by rw [← len_toList, hSl]; exact Lib.itoa_length_le (M : Int) (by omega) (by omega)
      have HDm := Lib.hid (fun W => HDg.out W)
      rw [← hS] at HDm
      obtain ⟨V, hV⟩ : ∃ V : ByteArray, V = ((⟨#[32, 123]⟩ : ByteArray) ++ S) ++ ⟨#[125, 13, 10]⟩ := ⟨_, rfl⟩
      have hVl : V.data.toList = hdC M := by rw [hV, cat_toList, cat_toList, hSl]; unfold hdC; simp
      have hVz : V.size = S.size + 5 := by rw [hV, ByteArray.size_append, ByteArray.size_append]; show 2 + S.size + 3 = _; omega
      have HVz := Lib.hid hVz
      have HVl := Lib.hid hVl
      have HVe := Lib.hid hV
      have HCv := Lib.hid (fun W => conv_bytesArg (P := Tryz.prog) W 9 29 5 V (by rw [HVz.out]; unfold maxLen; omega) Tryz.underlying9 Tryz.underlying29 Tryz.underlying5)
      clear hS hSl hV hVl hVz
      go_upto_region 17 with (first | (go_at_call 17; with_reducible refine (HDm.out _).mono ?_; rintro e wd ⟨rfl, hbd⟩; have HFd0 := Lib.hid (HFc.out.below hbd); have HBd0 := Lib.hid (HBq.out.trans (hbd.mono HBq.out.size)); clear hbd; obtain ⟨we, cpe, hre, hae, hbe⟩ := HCv.out wd; have HFe := Lib.hid (HFd0.out.below hbe); have HBe := Lib.hid (HBd0.out.trans (hbe.mono HBd0.out.size)); have HCe := Lib.hid (HFd.out _ _ xyS V.data.toList we HFe.out hae (by rw [HVl.out]; have := hdC_len M (by omega); unfold xyS; simp only [List.length_cons, List.length_nil]; omega)); rw [HVl.out, feed_head M (by omega)] at HCe; rw [HVz.out] at hre HCe; rw [HVe.out] at hre; clear hae hbe) | (go_at_call 15; with_reducible refine HCe.out.mono ?_; rintro e wf ⟨uf, psf, vf, Hf, rfl, hff, hpf, hof, hHf, hvf, hef, hbf, hkf⟩))
      try simp only at hff hpf
      have hblf : True := trivial
      obtain ⟨xf, rfl⟩ := ps_one hpf
      obtain ⟨gf, capf, rfl, hcpf, hgf, hglf, hcf⟩ := row2_read hof (Nat.zero_lt_one)
      have kf : wf.cell? ⟨gf, 0, none⟩ = some (.int .i64 (1)) := hcf 0 (by show 0 < 2; decide)
      have xf1 : wf.cell? ⟨gf, 1, none⟩ = some xf := hcf 1 (by show 1 < 2; decide)
      have HFf := Lib.hid hff
      have HBf := Lib.hid (HBe.out.trans hbf)
      have hcpf' : 1 ≤ capf := hcpf
      have hnf : ([(Ev.go, xf)] : List (Ev × Value)).length = 1 := rfl
      rw [hnf]
      clear hff hpf hof hHf hvf hef hbf hkf hcf hnf HCe hcpf hblf hre xf1
      go_upto_region 19 with fail
      have hmk := run_make_row' (P := Tryz.prog) 29 5 _ 1 Tryz.underlying29 Tryz.infoB rfl .i64 .i64 M (by omega) (by omega)
      obtain ⟨wg, hwg⟩ : ∃ x, x = wf.alloc (.cells (madeCells #[.int .u8 0] M) 5) := ⟨_, rfl⟩
      have hbg : Below wf.heap.size wf wg := by rw [hwg]; exact (Below.refl _ _).alloc (Nat.le_refl _) _
      have HWg := Lib.hid hwg
      have HFg := Lib.hid (HFf.out.below hbg)
      have HBg := Lib.hid (HBf.out.trans (hbg.mono HBf.out.size))
      have hAg : bytesArg wg (.slice (some ⟨wf.heap.size, 0, none⟩) M M) (List.replicate M 0) := bytesArg_lit _ hwg (made_zero M) (by simp) (by unfold maxLen; omega)
      have HCg := Lib.hid (HFd.out _ _ (hdS M) (List.replicate M 0) wg HFg.out hAg (by have := hdC_len M (by omega); unfold hdS hdL; simp; omega))
      rw [feed_lit M] at HCg
      clear hbg hwg hAg
      go_upto_region 20 with (first | (go_at_call 15; rw [← HWg.out]; with_reducible refine HCg.out.mono ?_; rintro e wh ⟨uh, psh, vh, Hh, rfl, hfh, hph, hoh, hHh, hvh, heh, hbh, hkh⟩))
      try simp only at hfh hph
      obtain rfl := ps_nil hph
      obtain ⟨aoh, caph, rfl⟩ := row2_len hoh
      have HFh := Lib.hid hfh
      have HBh := Lib.hid (HBg.out.trans hbh)
      clear hfh hph hoh hHh hvh heh hbh hkh HCg
      clear hmk
      obtain ⟨wli, hwli⟩ : ∃ x, x = wh.alloc (.cells #[.int .u8 10] 5 (1, 2)) := ⟨_, rfl⟩
      have hbli : Below wh.heap.size wh wli := by rw [hwli]; exact (Below.refl _ _).alloc (Nat.le_refl _) _
      have HWli := Lib.hid hwli
      have HFli := Lib.hid (HFh.out.below hbli)
      have HBli := Lib.hid (HBh.out.trans (hbli.mono HBh.out.size))
      have hAli : bytesArg wli (.slice (some ⟨wh.heap.size, 0, none⟩) 1 1) [10] := bytesArg_lit [10] hwli rfl rfl (by decide)
      have HCi := Lib.hid (HFd.out _ _ (litS M) [10] wli HFli.out hAli (by have := hdC_len M (by omega); unfold litS hdL; simp; omega))
      obtain ⟨te, hte⟩ := feed_end M (by omega)
      rw [hte] at HCi
      clear hbli hwli hAli hte
      go_upto_region 21 with (first | (go_at_call 15; rw [← HWli.out]; with_reducible refine HCi.out.mono ?_; rintro e wi ⟨ui, psi, vi, Hi, rfl, hfi, hpi, hoi, hHi, hvi, hei, hbi, hki⟩))
      try simp only at hfi hpi
      obtain ⟨xi, rfl⟩ := ps_one hpi
      obtain ⟨gi, capi, rfl, hcpi, hgi, hgli, hci⟩ := row2_read hoi (Nat.zero_lt_one)
      have ki : wi.cell? ⟨gi, 0, none⟩ = some (.int .i64 (2)) := hci 0 (by show 0 < 2; decide)
      have xi1 : wi.cell? ⟨gi, 1, none⟩ = some xi := hci 1 (by show 1 < 2; decide)
      have HFi := Lib.hid hfi
      have HBi := Lib.hid (HBli.out.trans hbi)
      have hcpi' : 1 ≤ capi := hcpi
      have hni : ([(Ev.cmd te, xi)] : List (Ev × Value)).length = 1 := rfl
      rw [hni]
      have HLi := Lib.hid (HLf.out _ _ wi HFi.out)
      have hkl : fr0.l.length = 0 := rfl
      rw [hkl] at HLi
      clear hfi hpi hoi hHi hvi hei hbi hki hci hni hkl HCi hcpi xi1
      go_wp2_with (first | (go_at_call 16; with_reducible refine HLi.out.mono ?_; rintro e wj ⟨rfl, rfl⟩))
      go_ret
      exact ⟨rfl, HB1.out.trans (HBi.out.mono HB1.out.size)⟩
end Go.Proofs.YtkkdplccneeaiaaGreatDoor
