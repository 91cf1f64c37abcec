/- Layer 20: contracts of package structure: a part that is no multipart is told: its words. -/
import Derived.Test.YtkmgflnmffdhjaaGreatDoorGbStK
import Derived.Test.YtkmgflnmffdhjaaGreatDoorGbLnC
namespace Go.Proofs.YtkmgflnmffdhjaaGreatDoor
open Go Go.RowKit

theorem sz_one : (⟨#[32]⟩ : ByteArray).size = 1 := rfl
theorem enc_short (l : List UInt8) (fs : List Fld) (hl : l.length ≤ 1500) : (encS20 l fs).length ≤ 1500 := by
  have hv := Nat.le_trans (valueS_short l fs cteN) hl
  unfold encS20
  split
  · decide
  · have : (foldS (valueS l fs cteN)).length = (valueS l fs cteN).length := by simp [foldS]
    omega
theorem ls_one : (⟨#[32]⟩ : ByteArray).data.toList = [32] := rfl
set_option maxRecDepth 100000 in
set_option maxHeartbeats 3200000 in
theorem one_any (B T : Nat) (ao : Option Addr) (cap : Nat) (all : Bool) (l acc : List UInt8) (w0 w : World) (ts : List Tr) (kd h1 h2 b1 b2 : Nat) (e1 e2 : Int) (ka ca : Option Addr) (kc cn cc : Nat)
    (hv : bytesArg w0 (.slice ao l.length cap) l) (hbig : l.length ≤ 1500) (he : env w0) (hB0 : B = w0.heap.size) (hb : Below B w0 w) (ht : TlAt B T (.slice ao l.length cap) all (Lib.byteCells acc) w) (hft : h1 ≤ h2) (htl : h2 ≤ l.length) (hbb : b1 ≤ b2) (hbl : b2 ≤ l.length)
    (hk : kidP B T (.slice ao l.length cap) all l w0 ka ts) (hkh : ∀ t ∈ ts, t.hd.1 ≤ t.hd.2 ∧ t.hd.2 ≤ l.length) (hn : ts.length ≤ 1000000000) (hlen : acc.length + (oneS l (fsOf l h1 h2) all kd b1 b2 ts).length ≤ 130000000000000) :
    Calls Tryz.prog 32 #[.pointer (some ⟨T, 0, none⟩), .agg #[.int .i64 (kd : Int), .int .i64 (h1 : Int), .int .i64 (h2 : Int), .int .i64 (b1 : Int), .int .i64 (b2 : Int), .slice ka ts.length kc, .slice ca cn cc, .int .i64 e1, .int .i64 e2]] w
      (tellP B T (.slice ao l.length cap) all (acc ++ oneS l (fsOf l h1 h2) all kd b1 b2 ts) w) := by
  unfold tellP
  have HA := Lib.hid hk
  have hBw : B ≤ w.heap.size := by rw [hB0]; rw [hB0] at hb; exact hb.size
  have HV := Lib.hid (fun W (h : Below B w0 W) => hv.below (W' := W) (by rw [← hB0]; exact h))
  have HE := Lib.hid (fun W (h : Below B w0 W) => he.below (w' := W) (by rw [← hB0]; exact h))
  have HKh := Lib.hid hkh
  have HLn := Lib.hid hlen
  obtain ⟨X, hX⟩ : ∃ X, X = w.alloc (partO kd h1 h2 b1 b2 (.slice ka ts.length kc) (.slice ca cn cc) e1 e2) := ⟨_, rfl⟩
  have HP : Hid (X.heap[w.heap.size]? = some (partO kd h1 h2 b1 b2 (.slice ka ts.length kc) (.slice ca cn cc) e1 e2)) := by rw [hX]; exact heap_alloc_new w _
  have hwX : Below w.heap.size w X := by rw [hX]; exact (Below.refl _ _).alloc (Nat.le_refl _) _
  have HKX : Hid (Kq B T w X) := Kq.of_below hwX hBw
  have HTX := Lib.hid (ht.below hwX)
  have hTw := ht.lt
  have HBX : Hid (Below B w0 X) := hb.trans (hwX.mono hBw)
  have hBX : B ≤ X.heap.size := Nat.le_trans hBw hwX.size
  have hHX : w.heap.size < X.heap.size := (Array.getElem?_eq_some_iff.1 HP.out).1
  unfold partO at hX
  have HX := Lib.hid hX
  have hsh := fsOf_short l hft htl (by omega)
  obtain ⟨fs, hfs⟩ : ∃ fs, fs = fsOf l h1 h2 := ⟨_, rfl⟩
  have HFs := Lib.hid hfs
  rw [← hfs] at hsh HLn ⊢
  clear hX hk ht hv he hB0 hb hlen hwX hkh hfs
  obtain ⟨H, hH⟩ : ∃ H, H = w.heap.size := ⟨_, rfl⟩
  rw [← hH] at HP hTw hHX
  have HHw := Lib.hid hH
  have hHT : H ≠ T := by omega
  clear hH
  go_enter Tryz.func32, Tryz.ntmps32
  go_wp2_with fail
  rw [← HX.out, ← HHw.out]
  clear HX
  go_upto_region 1 with fail
  go_cut [4] (fun s4 wx => ∃ J fo fc, s4 = .pointer (some ⟨J, 0, none⟩) ∧ J ≠ T ∧ Hid (On B T H J (partO kd h1 h2 b1 b2 (.slice ka ts.length kc) (.slice ca cn cc) e1 e2) ao cap fo fc all l fs w0 w acc wx))
  case first =>
    obtain ⟨p0, p1, p2, p3, p4, p5, p6, p7, p8⟩ := part_cells HP.out
    have t0 := HTX.out.c0
    have hS0 : sJ T H (.slice ao l.length cap) kd h1 h2 b1 b2 e1 e2 (.slice ka ts.length kc) (.slice ca cn cc) X.drew := ⟨t0, p0, p1, p2, p3, p4, p5, p6, p7, p8⟩
    clear t0 p0 p1 p2 p3 p4 p5 p6 p7 p8
    have hbd : Below X.heap.size X X.drew := (Below.refl _ _).drew
    refine wp_region_T (sJ T H (.slice ao l.length cap) kd h1 h2 b1 b2 e1 e2 (.slice ka ts.length kc) (.slice ca cn cc)) (fun n => decide (n ≤ 6)) (by kernel_rfl) ?_
    refine wpAnyT_takeE (i := 0) rfl (by kernel_rfl) (by kernel_rfl) (by kernel_rfl) (by kernel_rfl) (fun _ _ _ _ h => h) rfl hS0 ?_
    apply Exists.intro
    refine ⟨fun w hSw => ?_, ?_⟩
    · obtain ⟨_, _, _, _, _, _, _, _, _, _⟩ := hSw
      go_simp
      try rfl
    try simp only [Act.put]
    try simp only [List.setIfInBounds_toArray]
    try simp only [List.set_cons_succ]
    try simp only [List.set_cons_zero]
    refine wpAnyT_takeE (i := 1) rfl (by kernel_rfl) (by kernel_rfl) (by kernel_rfl) (by kernel_rfl) (fun _ _ _ _ h => h) rfl hS0 ?_
    apply Exists.intro
    refine ⟨fun w hSw => ?_, ?_⟩
    · obtain ⟨_, _, _, _, _, _, _, _, _, _⟩ := hSw
      go_simp
      try rfl
    try simp only [Act.put]
    try simp only [List.setIfInBounds_toArray]
    try simp only [List.set_cons_succ]
    try simp only [List.set_cons_zero]
    refine wpAnyT_takeE (i := 2) rfl (by kernel_rfl) (by kernel_rfl) (by kernel_rfl) (by kernel_rfl) (fun _ _ _ _ h => h) rfl hS0 ?_
    apply Exists.intro
    refine ⟨fun w hSw => ?_, ?_⟩
    · obtain ⟨_, _, _, _, _, _, _, _, _, _⟩ := hSw
      go_simp
      try rfl
    try simp only [Act.put]
    try simp only [List.setIfInBounds_toArray]
    try simp only [List.set_cons_succ]
    try simp only [List.set_cons_zero]
    refine wpAnyT_takeE (i := 3) rfl (by kernel_rfl) (by kernel_rfl) (by kernel_rfl) (by kernel_rfl) (fun _ _ _ _ h => h) rfl hS0 ?_
    apply Exists.intro
    refine ⟨fun w hSw => ?_, ?_⟩
    · obtain ⟨_, _, _, _, _, _, _, _, _, _⟩ := hSw
      go_simp
      try rfl
    try simp only [Act.put]
    try simp only [List.setIfInBounds_toArray]
    try simp only [List.set_cons_succ]
    try simp only [List.set_cons_zero]
    refine wpAnyT_takeE (i := 4) rfl (by kernel_rfl) (by kernel_rfl) (by kernel_rfl) (by kernel_rfl) (fun _ _ _ _ h => h) rfl hS0 ?_
    apply Exists.intro
    refine ⟨fun w hSw => ?_, ?_⟩
    · obtain ⟨_, _, _, _, _, _, _, _, _, _⟩ := hSw
      go_simp
      try rfl
    try simp only [Act.put]
    try simp only [List.setIfInBounds_toArray]
    try simp only [List.set_cons_succ]
    try simp only [List.set_cons_zero]
    have HHd := Lib.hid (fun W (h : Below X.heap.size X W) => headOf_own ao cap l h1 h2 (kd : Int) b1 b2 e1 e2 ka ca ts.length kc cn cc W (HV.out _ (HBX.out.trans (h.mono hBX))) (by omega) hft htl)
    unfold hdwPost headV at HHd
    rw [← HFs.out] at HHd
    have HS0 := Lib.hid hS0
    clear hS0
    have hXd : Below X.heap.size X X.drew := (Below.refl _ _).drew
    have hTX : T < X.heap.size := by omega
    refine wpAnyT_two (i := 5) (j := 6) (by kernel_rfl) rfl rfl (fun K hK => ?_) (fun K hK => ?_)
    · go_simp
      with_reducible refine (HHd.out X.drew hXd).mono ?_
      rintro e w1 ⟨fo, fc, rfl, ho, hb1⟩
      refine hK.out _ _ (fun _ => HS0.out.below hb1) ?_
      clear hK K
      have HB1 : Hid (Below X.heap.size X w1) := hXd.trans hb1
      have HO1 := Lib.hid ho
      have HS1 := Lib.hid (HS0.out.below hb1)
      clear ho hb1 HHd HS0
      refine wpAnyT_one (i := 6) (by kernel_rfl) rfl (fun K hK => ?_)
      go_simp
      refine hK.out _ _ (fun _ => HS1.out.below ((Below.refl _ _).alloc (Nat.le_refl _) _)) ?_
      clear hK K
      refine wpAnyT_rest _ _ _ _ (by kernel_rfl) ?_
      obtain ⟨Y, hY⟩ : ∃ Y, Y = w1.alloc (.cells #[.slice none 0 0, .slice none 0 0] 65) := ⟨_, rfl⟩
      obtain ⟨J, hJ⟩ : ∃ J, J = w1.heap.size := ⟨_, rfl⟩
      have HYJ : Hid (Y.heap[J]? = some (.cells #[.slice none 0 0, .slice none 0 0] 65 (0, 0))) := by unfold Hid; rw [hY, hJ]; exact heap_alloc_new _ _
      have HBY : Hid (Below w1.heap.size w1 Y) := by rw [hY]; exact (Below.refl _ _).alloc (Nat.le_refl _) _
      have hJX : X.heap.size ≤ J := by rw [hJ]; exact HB1.out.size
      have HZ : Hid (Below X.heap.size X ((Y.setCell ⟨J, 0, none⟩ (.slice ao l.length cap)).setCell ⟨J, 1, none⟩ (.slice fo fs.length fc))) := ((HB1.out.trans (HBY.out.mono HB1.out.size)).setCell (p := ⟨J, 0, none⟩) hJX _).setCell (p := ⟨J, 1, none⟩) hJX _
      have HOZ : Hid (World.ownsRow ((Y.setCell ⟨J, 0, none⟩ (.slice ao l.length cap)).setCell ⟨J, 1, none⟩ (.slice fo fs.length fc)) X.heap.size 100 4 (.slice fo fs.length fc) fs.length (fldCells fs)) := by
        have h1 : Below w1.heap.size w1 ((Y.setCell ⟨J, 0, none⟩ (.slice ao l.length cap)).setCell ⟨J, 1, none⟩ (.slice fo fs.length fc)) := (HBY.out.setCell (p := ⟨J, 0, none⟩) (by simp only; omega) _).setCell (p := ⟨J, 1, none⟩) (by simp only; omega) _
        exact ownsRow_below HO1.out h1
      rw [← hY, ← hJ]
      clear hY hJ HO1 HS1 HBY HB1
      have x0 : Y.cell? ⟨J, 0, none⟩ = some (.slice none 0 0) := by simp [World.cell?, HYJ.out]
      have x1 : Y.cell? ⟨J, 1, none⟩ = some (.slice none 0 0) := by simp [World.cell?, HYJ.out]
      have f0 : Y.frozen? ⟨J, 0, none⟩ = false := by simp [World.frozen?, HYJ.out]
      have f1 : Y.frozen? ⟨J, 1, none⟩ = false := by simp [World.frozen?, HYJ.out]
      refine wpAny_one (i := 7) (by kernel_rfl) rfl (fun K hK => ?_)
      go_simp
      refine hK.out _ _ ?_
      clear hK K
      refine wpAny_done (by kernel_rfl) ?_ _
      go_wp2_with fail
      go_meet
      exact ⟨J, fo, fc, rfl, by omega, ⟨HTX.out.below HZ.out, HKX.out.below HZ.out hBw, (HZ.out.block H hHX).trans HP.out, cells2_set HYJ.out, ⟨X.heap.size, hTX, HOZ.out⟩, HBX.out.trans (HZ.out.mono hBX)⟩⟩
    · go_simp
      refine hK.out _ _ (fun _ => HS0.out.below ((Below.refl _ _).alloc (Nat.le_refl _) _)) ?_
      clear hK K
      obtain ⟨Y, hY⟩ : ∃ Y, Y = (X.alloc (.cells #[.slice none 0 0, .slice none 0 0] 65)).drew := ⟨_, rfl⟩
      obtain ⟨J, hJ⟩ : ∃ J, J = X.heap.size := ⟨_, rfl⟩
      have HYJ : Hid (Y.heap[J]? = some (.cells #[.slice none 0 0, .slice none 0 0] 65 (0, 0))) := by unfold Hid; rw [hY, hJ]; exact heap_alloc_new _ _
      have HBY : Hid (Below X.heap.size X Y) := by rw [hY]; exact ((Below.refl _ _).alloc (Nat.le_refl _) _).drew
      have HSY := Lib.hid (HS0.out.below (W' := Y) (by rw [hY]; exact ((Below.refl _ _).alloc (Nat.le_refl _) _)))
      have hJY : J < Y.heap.size := (Array.getElem?_eq_some_iff.1 HYJ.out).1
      rw [← hY, ← hJ]
      have hJX : X.heap.size ≤ J := by omega
      clear hY hJ HS0
      refine wpAnyT_one (i := 5) (by kernel_rfl) rfl (fun K hK => ?_)
      go_simp
      with_reducible refine (HHd.out Y HBY.out).mono ?_
      rintro e w1 ⟨fo, fc, rfl, ho, hb1⟩
      refine hK.out _ _ (fun _ => HSY.out.below hb1) ?_
      clear hK K
      have HJ1 := Lib.hid ((hb1.block J hJY).trans HYJ.out)
      have HZ : Hid (Below X.heap.size X ((w1.setCell ⟨J, 0, none⟩ (.slice ao l.length cap)).setCell ⟨J, 1, none⟩ (.slice fo fs.length fc))) := ((HBY.out.trans (hb1.mono HBY.out.size)).setCell (p := ⟨J, 0, none⟩) hJX _).setCell (p := ⟨J, 1, none⟩) hJX _
      have HOZ : Hid (World.ownsRow ((w1.setCell ⟨J, 0, none⟩ (.slice ao l.length cap)).setCell ⟨J, 1, none⟩ (.slice fo fs.length fc)) Y.heap.size 100 4 (.slice fo fs.length fc) fs.length (fldCells fs)) := own_set (own_set ho hJY) hJY
      clear ho hb1 HHd
      refine wpAnyT_rest _ _ _ _ (by kernel_rfl) ?_
      have x0 : w1.cell? ⟨J, 0, none⟩ = some (.slice none 0 0) := by simp [World.cell?, HJ1.out]
      have x1 : w1.cell? ⟨J, 1, none⟩ = some (.slice none 0 0) := by simp [World.cell?, HJ1.out]
      have f0 : w1.frozen? ⟨J, 0, none⟩ = false := by simp [World.frozen?, HJ1.out]
      have f1 : w1.frozen? ⟨J, 1, none⟩ = false := by simp [World.frozen?, HJ1.out]
      refine wpAny_one (i := 7) (by kernel_rfl) rfl (fun K hK => ?_)
      go_simp
      refine hK.out _ _ ?_
      clear hK K
      refine wpAny_done (by kernel_rfl) ?_ _
      go_wp2_with fail
      go_meet
      exact ⟨J, fo, fc, rfl, by omega, ⟨HTX.out.below HZ.out, HKX.out.below HZ.out hBw, (HZ.out.block H hHX).trans HP.out, cells2_set HJ1.out, ⟨Y.heap.size, by omega, HOZ.out⟩, HBX.out.trans (HZ.out.mono hBX)⟩⟩
  case rest =>
    obtain ⟨J, fo, fc, rfl, hJT, HOn⟩ := hcut
    have hP := @part_not_u8 (kd : Int) h1 h2 b1 b2 e1 e2 (.slice ka ts.length kc) (.slice ca cn cc)
    have HTell := Lib.hid (fun W acc' (h : On B T H J (partO kd h1 h2 b1 b2 (.slice ka ts.length kc) (.slice ca cn cc) e1 e2) ao cap fo fc all l fs w0 w acc' W) acc2 W' (ht : TlAt B T (.slice ao l.length cap) all (Lib.byteCells acc2) W') (hk : Kq B T W W') => h.tell hHT hJT hP ht hk)
    have HVo := Lib.hid (fun W acc' (h : On B T H J (partO kd h1 h2 b1 b2 (.slice ka ts.length kc) (.slice ca cn cc) e1 e2) ao cap fo fc all l fs w0 w acc' W) => HV.out W h.b0)
    have HEo := Lib.hid (fun W acc' (h : On B T H J (partO kd h1 h2 b1 b2 (.slice ka ts.length kc) (.slice ca cn cc) e1 e2) ao cap fo fc all l fs w0 w acc' W) => HE.out W h.b0)
    have HHo := Lib.hid (fun W acc' (h : On B T H J (partO kd h1 h2 b1 b2 (.slice ka ts.length kc) (.slice ca cn cc) e1 e2) ao cap fo fc all l fs w0 w acc' W) => h.at (HV.out W h.b0))
    have HTo := Lib.hid (fun W acc' (h : On B T H J (partO kd h1 h2 b1 b2 (.slice ka ts.length kc) (.slice ca cn cc) e1 e2) ao cap fo fc all l fs w0 w acc' W) => env_tab (HE.out W h.b0))
    clear hP HTX HKX HBX hBX hHX HV HE
    obtain ⟨l0, l1, l2⟩ := kind_len l fs kd hbig
    obtain ⟨kk, hkk⟩ : ∃ kk, kk = kindS l fs kd := ⟨_, rfl⟩
    have hsub : kk.2.1.length ≤ 1500 := by rw [hkk]; exact kind_sub l _ kd hbig
    have htyp : kk.1.length ≤ 1500 := by rw [hkk]; exact kind_typ l _ kd hbig
    have HKd := Lib.hid (fun W acc' (h : On B T H J (partO kd h1 h2 b1 b2 (.slice ka ts.length kc) (.slice ca cn cc) e1 e2) ao cap fo fc all l fs w0 w acc' W) => kind_any ao cap l kd h1 h2 b1 b2 e1 e2 ka ca ts.length kc cn cc W (HVo.out W acc' h) hbig hft htl (HEo.out W acc' h))
    unfold kindV at HKd
    rw [← HFs.out, ← hkk] at HKd
    rw [← hkk] at l0 l1 l2
    have HOne : Hid (oneS l fs all kd b1 b2 ts = spW [strW kk.1, strW kk.2.1, kk.2.2] ++ ([32] ++ spW [fldW l fs nmCid, fldW l fs nmCde]) ++ ([32] ++ spW [strW (encS20 l fs), Lib.itoa ((b2 - b1 : Nat) : Int)])
      ++ (if kd = 2 then (match ts with | [] => [] | t :: _ => [32] ++ (putE (ofE l (fsOf l t.hd.1 t.hd.2)) ++ [32]) ++ stT l all t) else [])
      ++ (if (kd = 2 ∧ ts ≠ []) ∨ kk.1 = txtN then [32] ++ Lib.itoa ((linesZ l (b1 : Int) (b2 : Int)).length : Int) else [])
      ++ (if all = true then [32] ++ spW [fldW l fs nmMd5, spW (restW l fs)] else [])) := by unfold Hid; rw [hkk]; rfl
    obtain ⟨K0, hK0⟩ : ∃ A : ByteArray, A = ⟨kk.1.toArray⟩ := ⟨_, rfl⟩
    obtain ⟨K1, hK1⟩ : ∃ A : ByteArray, A = ⟨kk.2.1.toArray⟩ := ⟨_, rfl⟩
    obtain ⟨K2, hK2⟩ : ∃ A : ByteArray, A = ⟨kk.2.2.toArray⟩ := ⟨_, rfl⟩
    rw [← hK0, ← hK1, ← hK2] at HKd
    obtain ⟨S0, hS0⟩ : ∃ A : ByteArray, A = ⟨(strW kk.1).toArray⟩ := ⟨_, rfl⟩
    obtain ⟨S1, hS1⟩ : ∃ A : ByteArray, A = ⟨(strW kk.2.1).toArray⟩ := ⟨_, rfl⟩
    have HSt0 : Hid (∀ W, tab W → Calls Tryz.prog 38 #[.string K0] W fun e w' => e = .returned (.string S0) ∧ Below W.heap.size W w') := by
      rw [hK0, hS0]
      exact fun W h => wstring_any ⟨kk.1.toArray⟩ W (by rw [← len_toList]; show kk.1.length ≤ _; omega) h
    have HSt1 : Hid (∀ W, tab W → Calls Tryz.prog 38 #[.string K1] W fun e w' => e = .returned (.string S1) ∧ Below W.heap.size W w') := by
      rw [hK1, hS1]
      exact fun W h => wstring_any ⟨kk.2.1.toArray⟩ W (by rw [← len_toList]; show kk.2.1.length ≤ _; omega) h
    have HK0 : Hid ((K0.toList == [116, 101, 120, 116]) = decide (kk.1 = txtN)) := by
      unfold Hid
      rw [ByteArray.toList_eq, hK0]
      show (kk.1 == txtN) = _
      exact Bool.eq_iff_iff.2 (by simp)
    have zS0 : S0.size ≤ 3030 := by rw [str_size hS0]; exact l0
    have zS1 : S1.size ≤ 3030 := by rw [str_size hS1]; exact l1
    have zK2 : K2.size ≤ 424400000 := by rw [str_size hK2]; exact l2
    rw [show spW [strW kk.1, strW kk.2.1, kk.2.2] = spW [S0.data.toList, S1.data.toList, K2.data.toList] by rw [hS0, hS1, hK2]] at HOne
    obtain ⟨ty, hty⟩ : ∃ ty, ty = kk.1 := ⟨_, rfl⟩
    rw [← hty] at HOne HK0
    clear l0 l1 l2 hsub htyp hK0 hK1 hK2 hS0 hS1 hkk hty
    have m3 := spW_len [S0.data.toList, S1.data.toList, K2.data.toList]
    rw [wsW_cons, wsW_cons, wsW_cons, wsW_nil2, len_toList, len_toList, len_toList] at m3
    have HSp3 := Lib.hid (fun W => spaced_three S0 S1 K2 W (by omega))
    obtain ⟨A3, hA3⟩ : ∃ A : ByteArray, A = ⟨(spW [S0.data.toList, S1.data.toList, K2.data.toList]).toArray⟩ := ⟨_, rfl⟩
    rw [← hA3] at HSp3
    have zA3 : A3.size ≤ 500000000 := by rw [str_size hA3]; omega
    rw [show spW [S0.data.toList, S1.data.toList, K2.data.toList] = A3.data.toList by rw [hA3]] at HOne
    clear hA3 m3
    have HFd := Lib.hid (fun nm W acc' (h : On B T H J (partO kd h1 h2 b1 b2 (.slice ka ts.length kc) (.slice ca cn cc) e1 e2) ao cap fo fc all l fs w0 w acc' W) => hfield_any ao fo cap fc l fs nm W (HHo.out W acc' h) (by omega) hsh (HTo.out W acc' h))
    unfold headV at HFd
    have HFd0 := Lib.hid (fun W acc' h => HFd.out ⟨#[99, 111, 110, 116, 101, 110, 116, 45, 105, 100]⟩ W acc' h)
    rw [show (⟨#[99, 111, 110, 116, 101, 110, 116, 45, 105, 100]⟩ : ByteArray).data.toList = nmCid from rfl] at HFd0
    have zF0 := fld_len l fs nmCid hbig
    obtain ⟨F0, hF0⟩ : ∃ A : ByteArray, A = ⟨(fldW l fs nmCid).toArray⟩ := ⟨_, rfl⟩
    rw [← str_size hF0] at zF0
    rw [← hF0] at HFd0
    rw [show fldW l fs nmCid = F0.data.toList by rw [hF0]] at HOne
    clear hF0
    have HFd1 := Lib.hid (fun W acc' h => HFd.out ⟨#[99, 111, 110, 116, 101, 110, 116, 45, 100, 101, 115, 99, 114, 105, 112, 116, 105, 111, 110]⟩ W acc' h)
    rw [show (⟨#[99, 111, 110, 116, 101, 110, 116, 45, 100, 101, 115, 99, 114, 105, 112, 116, 105, 111, 110]⟩ : ByteArray).data.toList = nmCde from rfl] at HFd1
    have zF1 := fld_len l fs nmCde hbig
    obtain ⟨F1, hF1⟩ : ∃ A : ByteArray, A = ⟨(fldW l fs nmCde).toArray⟩ := ⟨_, rfl⟩
    rw [← str_size hF1] at zF1
    rw [← hF1] at HFd1
    rw [show fldW l fs nmCde = F1.data.toList by rw [hF1]] at HOne
    clear hF1
    have HFd2 := Lib.hid (fun W acc' h => HFd.out ⟨#[99, 111, 110, 116, 101, 110, 116, 45, 109, 100, 53]⟩ W acc' h)
    rw [show (⟨#[99, 111, 110, 116, 101, 110, 116, 45, 109, 100, 53]⟩ : ByteArray).data.toList = nmMd5 from rfl] at HFd2
    have zF2 := fld_len l fs nmMd5 hbig
    obtain ⟨F2, hF2⟩ : ∃ A : ByteArray, A = ⟨(fldW l fs nmMd5).toArray⟩ := ⟨_, rfl⟩
    rw [← str_size hF2] at zF2
    rw [← hF2] at HFd2
    rw [show fldW l fs nmMd5 = F2.data.toList by rw [hF2]] at HOne
    clear hF2
    have m2 := spW_len [F0.data.toList, F1.data.toList]
    rw [wsW_cons, wsW_cons, wsW_nil2, len_toList, len_toList] at m2
    have HSp4 := Lib.hid (fun W => spaced_two F0 F1 W (by omega))
    obtain ⟨A4, hA4⟩ : ∃ A : ByteArray, A = ⟨(spW [F0.data.toList, F1.data.toList]).toArray⟩ := ⟨_, rfl⟩
    rw [← hA4] at HSp4
    have zA4 : A4.size ≤ 10000 := by rw [str_size hA4]; omega
    rw [show spW [F0.data.toList, F1.data.toList] = A4.data.toList by rw [hA4]] at HOne
    clear hA4 m2
    have HEn := Lib.hid (fun W acc' (h : On B T H J (partO kd h1 h2 b1 b2 (.slice ka ts.length kc) (.slice ca cn cc) e1 e2) ao cap fo fc all l fs w0 w acc' W) => enc_any ao cap l kd h1 h2 b1 b2 e1 e2 ka ca ts.length kc cn cc W (HVo.out W acc' h) (by omega) hft htl)
    rw [← HFs.out] at HEn
    have zE := enc_len l fs hbig
    have yE := enc_short l fs hbig
    obtain ⟨C0, hC0⟩ : ∃ A : ByteArray, A = ⟨(encS20 l fs).toArray⟩ := ⟨_, rfl⟩
    obtain ⟨S2, hS2⟩ : ∃ A : ByteArray, A = ⟨(strW (encS20 l fs)).toArray⟩ := ⟨_, rfl⟩
    have HSt2 : Hid (∀ W, tab W → Calls Tryz.prog 38 #[.string C0] W fun e w' => e = .returned (.string S2) ∧ Below W.heap.size W w') := by
      rw [hC0, hS2]
      exact fun W h => wstring_any ⟨(encS20 l fs).toArray⟩ W (by rw [← len_toList]; show (encS20 l fs).length ≤ _; omega) h
    rw [← hC0] at HEn
    rw [← str_size hS2] at zE
    rw [show strW (encS20 l fs) = S2.data.toList by rw [hS2]] at HOne
    clear hC0 hS2 yE
    have zD := itoa_len20 (b2 - b1) (by omega)
    have hnn : ((b2 - b1 : Nat) : Int) = (b2 : Int) - (b1 : Int) := by omega
    have HDg := Lib.hid (fun W (h : tab W) => digits_any ((b2 - b1 : Nat) : Int) (by omega) (by omega) W h)
    obtain ⟨D0, hD0⟩ : ∃ A : ByteArray, A = ⟨(Lib.itoa ((b2 - b1 : Nat) : Int)).toArray⟩ := ⟨_, rfl⟩
    rw [← str_size hD0] at zD
    rw [← hD0] at HDg
    rw [show Lib.itoa ((b2 - b1 : Nat) : Int) = D0.data.toList by rw [hD0]] at HOne
    rw [hnn] at HDg
    clear hD0 hnn
    have m2 := spW_len [S2.data.toList, D0.data.toList]
    rw [wsW_cons, wsW_cons, wsW_nil2, len_toList, len_toList] at m2
    have HSp5 := Lib.hid (fun W => spaced_two S2 D0 W (by omega))
    obtain ⟨A5, hA5⟩ : ∃ A : ByteArray, A = ⟨(spW [S2.data.toList, D0.data.toList]).toArray⟩ := ⟨_, rfl⟩
    rw [← hA5] at HSp5
    have zA5 : A5.size ≤ 10000 := by rw [str_size hA5]; omega
    rw [show spW [S2.data.toList, D0.data.toList] = A5.data.toList by rw [hA5]] at HOne
    clear hA5 m2
    have HCt := Lib.hid (fun W acc' (h : On B T H J (partO kd h1 h2 b1 b2 (.slice ka ts.length kc) (.slice ca cn cc) e1 e2) ao cap fo fc all l fs w0 w acc' W) => count_any (.slice ao l.length cap) l (b1 : Int) (b2 : Int) W (HVo.out W acc' h) (by omega))
    have hln := linesZ_len l (b1 : Int) (b2 : Int)
    obtain ⟨nl, hnl⟩ : ∃ n, n = (linesZ l (b1 : Int) (b2 : Int)).length := ⟨_, rfl⟩
    rw [← hnl] at HCt hln HOne
    clear hnl
    have zL := itoa_len20 nl (by omega)
    have HDl := Lib.hid (fun W (h : tab W) => digits_any (nl : Int) (by omega) (by omega) W h)
    obtain ⟨L0, hL0⟩ : ∃ A : ByteArray, A = ⟨(Lib.itoa (nl : Int)).toArray⟩ := ⟨_, rfl⟩
    rw [← str_size hL0] at zL
    rw [← hL0] at HDl
    rw [show Lib.itoa (nl : Int) = L0.data.toList by rw [hL0]] at HOne
    clear hL0
    have HRs := Lib.hid (fun W acc' (h : On B T H J (partO kd h1 h2 b1 b2 (.slice ka ts.length kc) (.slice ca cn cc) e1 e2) ao cap fo fc all l fs w0 w acc' W) => rest_any ao fo cap fc l fs W (HHo.out W acc' h) hbig hsh (HEo.out W acc' h))
    unfold headV at HRs
    have lR := rest_len l fs hbig
    have lR2 := spW_len (restW l fs)
    obtain ⟨R, hR⟩ : ∃ A : ByteArray, A = ⟨(spW (restW l fs)).toArray⟩ := ⟨_, rfl⟩
    rw [← hR] at HRs
    have zR : R.size ≤ 424420000 := by rw [str_size hR]; omega
    rw [show spW (restW l fs) = R.data.toList by rw [hR]] at HOne
    clear hR lR lR2 HFd
    have m2 := spW_len [F2.data.toList, R.data.toList]
    rw [wsW_cons, wsW_cons, wsW_nil2, len_toList, len_toList] at m2
    have HSp12 := Lib.hid (fun W => spaced_two F2 R W (by omega))
    obtain ⟨A12, hA12⟩ : ∃ A : ByteArray, A = ⟨(spW [F2.data.toList, R.data.toList]).toArray⟩ := ⟨_, rfl⟩
    rw [← hA12] at HSp12
    have zA12 : A12.size ≤ 500000000 := by rw [str_size hA12]; omega
    rw [show spW [F2.data.toList, R.data.toList] = A12.data.toList by rw [hA12]] at HOne
    clear hA12 m2
    have HAd1 := Lib.hid (fun W acc' b (h : TlAt B T (.slice ao l.length cap) all (Lib.byteCells acc') W) hle => add_one B T (.slice ao l.length cap) all acc' b W h hle (Nat.le_of_lt (Nat.lt_of_le_of_lt h.1 h.lt)))
    have HAd2 := Lib.hid (fun W acc' b (h : TlAt B T (.slice ao l.length cap) all (Lib.byteCells acc') W) hle => add_two B T (.slice ao l.length cap) all acc' ⟨#[32]⟩ b W h hle (Nat.le_of_lt (Nat.lt_of_le_of_lt h.1 h.lt)))
    rw [sz_one, ls_one] at HAd2
    have HAd3 := Lib.hid (fun W acc' b (h : TlAt B T (.slice ao l.length cap) all (Lib.byteCells acc') W) hle => add_three B T (.slice ao l.length cap) all acc' ⟨#[32]⟩ b ⟨#[32]⟩ W h hle (Nat.le_of_lt (Nat.lt_of_le_of_lt h.1 h.lt)))
    rw [sz_one, ls_one] at HAd3
    unfold tellP at HAd1 HAd2 HAd3
    obtain ⟨p0, p1, p2, p3, p4, p5, p6, p7, p8⟩ := part_cells HOn.out.pt
    obtain ⟨j0, j1⟩ := HOn.out.hc
    have t0 := HOn.out.tl.c0
    have Zt0 := BW.cell t0
    have Zj0 := BW.cell j0
    have Zj1 := BW.cell j1
    have Zp0 := BW.cell p0
    have Zp1 := BW.cell p1
    have Zp2 := BW.cell p2
    have Zp3 := BW.cell p3
    have Zp4 := BW.cell p4
    have Zp5 := BW.cell p5
    have Zp6 := BW.cell p6
    have Zp7 := BW.cell p7
    have Zp8 := BW.cell p8
    go_upto_region 2 with fail
    have HKz := Lib.hid (fun z : BW wc => HKd.out z.v acc (HOn.out.below z.h))
    refine wp_region_below (by kernel_rfl) (by kernel_rfl) ?_
    repeat (go_big_quiet_step (first | (go_at_call 11; with_reducible exact BW.calls (HKz.out _))))
    refine wpQuiet_nil ?_
    rintro W2 ⟨⟨_, hbq⟩, rfl⟩
    have HO2 := Lib.hid (HOn.out.below hbq)
    clear hbq HKz HKd HOn
    clear t0 j0 j1 p0 p1 p2 p3 p4 p5 p6 p7 p8 Zt0 Zj0 Zj1 Zp0 Zp1 Zp2 Zp3 Zp4 Zp5 Zp6 Zp7 Zp8
    go_wp2_with fail
    with_reducible refine (HSt0.out _ (HTo.out _ _ HO2.out)).mono ?_
    rintro e W3a ⟨rfl, hb⟩
    have HO3a := Lib.hid (HO2.out.below hb)
    clear hb HO2 HSt0
    go_wp2_with fail
    with_reducible refine (HSt1.out _ (HTo.out _ _ HO3a.out)).mono ?_
    rintro e W3b ⟨rfl, hb⟩
    have HO3b := Lib.hid (HO3a.out.below hb)
    clear hb HO3a HSt1
    go_wp2_with fail
    with_reducible refine (HSp3.out _).mono ?_
    rintro e W3c ⟨rfl, hb⟩
    have HO3c := Lib.hid (HO3b.out.below hb)
    clear hb HO3b HSp3
    have HAc := Lib.hid (HAd1.out _ _ A3 HO3c.out.tl (by have := HLn.out; omega))
    obtain ⟨acc3, hacc3⟩ : ∃ a, a = acc ++ A3.data.toList := ⟨_, rfl⟩
    rw [← hacc3] at HAc
    have n3 : acc3.length = acc.length + A3.size := by rw [hacc3, List.length_append, len_toList]
    have HC3 := Lib.hid hacc3
    clear hacc3
    go_wp2_with fail
    with_reducible refine (HAc.out).mono ?_
    rintro e W3 ⟨rfl, ht, hk⟩
    have HO3 := Lib.hid (HTell.out _ _ HO3c.out _ _ ht hk)
    clear ht hk HO3c HAc
    obtain ⟨p0, p1, p2, p3, p4, p5, p6, p7, p8⟩ := part_cells HO3.out.pt
    obtain ⟨j0, j1⟩ := HO3.out.hc
    have t0 := HO3.out.tl.c0
    have Zt0 := BW.cell t0
    have Zj0 := BW.cell j0
    have Zj1 := BW.cell j1
    have Zp0 := BW.cell p0
    have Zp1 := BW.cell p1
    have Zp2 := BW.cell p2
    have Zp3 := BW.cell p3
    have Zp4 := BW.cell p4
    have Zp5 := BW.cell p5
    have Zp6 := BW.cell p6
    have Zp7 := BW.cell p7
    have Zp8 := BW.cell p8
    go_upto_region 4 with fail
    have HF0z := Lib.hid (fun z : BW W3 => HFd0.out z.v acc3 (HO3.out.below z.h))
    have HF1z := Lib.hid (fun z : BW W3 => HFd1.out z.v acc3 (HO3.out.below z.h))
    refine wp_region_belowM 5 (by kernel_rfl) (by kernel_rfl) (by kernel_rfl) (by kernel_rfl) (fun _ _ _ _ h => h) rfl ?_
    apply Exists.intro
    refine ⟨fun w => ?_, ?_⟩
    · go_simp
      try rfl
    try simp only [Act.put]
    try simp only [List.setIfInBounds_toArray]
    try simp only [List.set_cons_succ]
    try simp only [List.set_cons_zero]
    simp only [List.take_succ_cons, List.take_zero, List.drop_succ_cons, List.drop_zero]
    repeat (go_big_quiet_step (first | (go_at_call 57; first | (with_reducible exact BW.calls (HF0z.out _)) | (with_reducible exact BW.calls (HF1z.out _)))))
    refine wpQuiet_nil ?_
    rintro W4q ⟨⟨_, hbq⟩, rfl⟩
    have HO4q := Lib.hid (HO3.out.below hbq)
    clear hbq HO3 HF0z HF1z
    clear t0 j0 j1 p0 p1 p2 p3 p4 p5 p6 p7 p8 Zt0 Zj0 Zj1 Zp0 Zp1 Zp2 Zp3 Zp4 Zp5 Zp6 Zp7 Zp8
    clear HFd0 HFd1
    go_wp2_with fail
    with_reducible refine (HSp4.out _).mono ?_
    rintro e W4c ⟨rfl, hb⟩
    have HO4c := Lib.hid (HO4q.out.below hb)
    clear hb HO4q HSp4
    have HAc := Lib.hid (HAd2.out _ _ A4 HO4c.out.tl (by have := HLn.out; omega))
    obtain ⟨acc4, hacc4⟩ : ∃ a, a = acc3 ++ ([32] ++ A4.data.toList) := ⟨_, rfl⟩
    rw [← hacc4] at HAc
    have n4 : acc4.length = acc3.length + 1 + A4.size := by rw [hacc4, List.length_append, List.length_append, len_toList]; show _ + (1 + _) = _; omega
    have HC4 := Lib.hid hacc4
    clear hacc4
    go_wp2_with fail
    with_reducible refine (HAc.out).mono ?_
    rintro e W4 ⟨rfl, ht, hk⟩
    have HO4 := Lib.hid (HTell.out _ _ HO4c.out _ _ ht hk)
    clear ht hk HO4c HAc
    have hwr : IntKind.i64.wrap ((b2 : Int) - (b1 : Int)) = (b2 : Int) - (b1 : Int) := IntWalk.i64_in _ (by omega)
    obtain ⟨p0, p1, p2, p3, p4, p5, p6, p7, p8⟩ := part_cells HO4.out.pt
    obtain ⟨j0, j1⟩ := HO4.out.hc
    have t0 := HO4.out.tl.c0
    have Zt0 := BW.cell t0
    have Zj0 := BW.cell j0
    have Zj1 := BW.cell j1
    have Zp0 := BW.cell p0
    have Zp1 := BW.cell p1
    have Zp2 := BW.cell p2
    have Zp3 := BW.cell p3
    have Zp4 := BW.cell p4
    have Zp5 := BW.cell p5
    have Zp6 := BW.cell p6
    have Zp7 := BW.cell p7
    have Zp8 := BW.cell p8
    go_upto_region 5 with fail
    have HEz := Lib.hid (fun z : BW W4 => HEn.out z.v acc4 (HO4.out.below z.h))
    have HTz := Lib.hid (fun z : BW W4 => HTo.out z.v acc4 (HO4.out.below z.h))
    refine wp_region_belowM 16 (by kernel_rfl) (by kernel_rfl) (by kernel_rfl) (by kernel_rfl) (fun _ _ _ _ h => h) rfl ?_
    apply Exists.intro
    refine ⟨fun w => ?_, ?_⟩
    · go_simp
      try rfl
    try simp only [Act.put]
    try simp only [List.setIfInBounds_toArray]
    try simp only [List.set_cons_succ]
    try simp only [List.set_cons_zero]
    simp only [List.take_succ_cons, List.take_zero, List.drop_succ_cons, List.drop_zero]
    repeat (go_big_quiet_step (first | (go_at_call 58; with_reducible exact BW.calls (HEz.out _)) | (go_at_call 38; with_reducible exact BW.calls (HSt2.out _ (HTz.out _))) | (go_at_call 59; with_reducible exact BW.calls (HDg.out _ (HTz.out _)))))
    refine wpQuiet_nil ?_
    rintro W5q ⟨⟨_, hbq⟩, rfl⟩
    have HO5q := Lib.hid (HO4.out.below hbq)
    clear hbq HO4 HEz HTz
    clear t0 j0 j1 p0 p1 p2 p3 p4 p5 p6 p7 p8 Zt0 Zj0 Zj1 Zp0 Zp1 Zp2 Zp3 Zp4 Zp5 Zp6 Zp7 Zp8
    clear HEn HSt2 HDg hwr
    go_wp2_with fail
    with_reducible refine (HSp5.out _).mono ?_
    rintro e W5c ⟨rfl, hb⟩
    have HO5c := Lib.hid (HO5q.out.below hb)
    clear hb HO5q HSp5
    have HAc := Lib.hid (HAd2.out _ _ A5 HO5c.out.tl (by have := HLn.out; omega))
    obtain ⟨acc5, hacc5⟩ : ∃ a, a = acc4 ++ ([32] ++ A5.data.toList) := ⟨_, rfl⟩
    rw [← hacc5] at HAc
    have n5 : acc5.length = acc4.length + 1 + A5.size := by rw [hacc5, List.length_append, List.length_append, len_toList]; show _ + (1 + _) = _; omega
    have HC5 := Lib.hid hacc5
    clear hacc5
    go_wp2_with fail
    with_reducible refine (HAc.out).mono ?_
    rintro e W5 ⟨rfl, ht, hk⟩
    have HO5 := Lib.hid (HTell.out _ _ HO5c.out _ _ ht hk)
    clear ht hk HO5c HAc
    obtain ⟨X8, hX8⟩ : ∃ X, X = (if kd = 2 then (match ts with | [] => [] | t :: _ => [32] ++ (putE (ofE l (fsOf l t.hd.1 t.hd.2)) ++ [32]) ++ stT l all t) else []) := ⟨_, rfl⟩
    obtain ⟨X10, hX10⟩ : ∃ X, X = (if (kd = 2 ∧ ts ≠ []) ∨ ty = txtN then [32] ++ L0.data.toList else []) := ⟨_, rfl⟩
    obtain ⟨X12, hX12⟩ : ∃ X, X = (if all = true then [32] ++ A12.data.toList else []) := ⟨_, rfl⟩
    rw [← hX8, ← hX10, ← hX12] at HOne
    have HX8 := Lib.hid hX8
    have HX10 := Lib.hid hX10
    have HX12 := Lib.hid hX12
    clear hX8 hX10 hX12
    by_cases hk2 : kd = 2
    · subst hk2
      by_cases hne : ts = []
      · have HV8 : Hid (X8 = []) := by unfold Hid; rw [HX8.out, hne]; rfl
        have hl0 : ts.length = 0 := by rw [hne]; rfl
        have hl1 : ¬ (0 : Int) < (ts.length : Int) := by omega
        have hl2 : decide ((0 : Int) < (ts.length : Int)) = false := decide_eq_false hl1
        by_cases hty : ty = txtN
        · have hkx : (K0.toList == [116, 101, 120, 116]) = true := by rw [HK0.out, hty]; exact decide_eq_true rfl
          have HV10 : Hid (X10 = [32] ++ L0.data.toList) := HX10.out.trans (if_pos (.inr hty))
          clear hty
          obtain ⟨p0, p1, p2, p3, p4, p5, p6, p7, p8⟩ := part_cells HO5.out.pt
          obtain ⟨j0, j1⟩ := HO5.out.hc
          have t0 := HO5.out.tl.c0
          have Zt0 := BW.cell t0
          have Zj0 := BW.cell j0
          have Zj1 := BW.cell j1
          have Zp0 := BW.cell p0
          have Zp1 := BW.cell p1
          have Zp2 := BW.cell p2
          have Zp3 := BW.cell p3
          have Zp4 := BW.cell p4
          have Zp5 := BW.cell p5
          have Zp6 := BW.cell p6
          have Zp7 := BW.cell p7
          have Zp8 := BW.cell p8
          go_upto_region 10 with fail
          have HCz := Lib.hid (fun z : BW W5 => HCt.out z.v acc5 (HO5.out.below z.h))
          have HTz := Lib.hid (fun z : BW W5 => HTo.out z.v acc5 (HO5.out.below z.h))
          refine wp_region_belowM 9 (by kernel_rfl) (by kernel_rfl) (by kernel_rfl) (by kernel_rfl) (fun _ _ _ _ h => h) rfl ?_
          apply Exists.intro
          refine ⟨fun w => ?_, ?_⟩
          · go_simp
            try rfl
          try simp only [Act.put]
          try simp only [List.setIfInBounds_toArray]
          try simp only [List.set_cons_succ]
          try simp only [List.set_cons_zero]
          simp only [List.take_succ_cons, List.take_zero, List.drop_succ_cons, List.drop_zero]
          repeat (go_big_quiet_step (first | (go_at_call 62; with_reducible exact BW.calls (HCz.out _)) | (go_at_call 59; with_reducible exact BW.calls (HDl.out _ (HTz.out _)))))
          refine wpQuiet_nil ?_
          rintro W10q ⟨⟨_, hbq⟩, rfl⟩
          have HO10q := Lib.hid (HO5.out.below hbq)
          clear hbq HO5 HCz HTz
          clear t0 j0 j1 p0 p1 p2 p3 p4 p5 p6 p7 p8 Zt0 Zj0 Zj1 Zp0 Zp1 Zp2 Zp3 Zp4 Zp5 Zp6 Zp7 Zp8
          have HO10c := HO10q
          clear HO10q
          have HAc := Lib.hid (HAd2.out _ _ L0 HO10c.out.tl (by have := HLn.out; omega))
          obtain ⟨acc10, hacc10⟩ : ∃ a, a = acc5 ++ ([32] ++ L0.data.toList) := ⟨_, rfl⟩
          rw [← hacc10] at HAc
          have n10 : acc10.length = acc5.length + 1 + L0.size := by rw [hacc10, List.length_append, List.length_append, len_toList]; show _ + (1 + _) = _; omega
          have HC10 := Lib.hid hacc10
          clear hacc10
          go_wp2_with fail
          with_reducible refine (HAc.out).mono ?_
          rintro e W10 ⟨rfl, ht, hk⟩
          have HO10 := Lib.hid (HTell.out _ _ HO10c.out _ _ ht hk)
          clear ht hk HO10c HAc
          have t1 := HO10.out.tl.c1
          cases all with
          | false =>
            have HY : Hid (X12 = []) := HX12.out.trans (if_neg (by decide))
            go_wp2_with fail
            go_end0
            refine ⟨rfl, ?_, HO10.out.kq⟩
            have hfin := HO10.out.tl
            rw [HC10.out, HC5.out, HC4.out, HC3.out] at hfin
            rw [HOne.out, HV8.out, HV10.out, HY.out]
            simpa only [List.append_assoc, List.append_nil, List.nil_append] using hfin
          | true =>
            have HY : Hid (X12 = [32] ++ A12.data.toList) := HX12.out.trans (if_pos rfl)
            obtain ⟨p0, p1, p2, p3, p4, p5, p6, p7, p8⟩ := part_cells HO10.out.pt
            obtain ⟨j0, j1⟩ := HO10.out.hc
            have t0 := HO10.out.tl.c0
            have Zt0 := BW.cell t0
            have Zj0 := BW.cell j0
            have Zj1 := BW.cell j1
            have Zp0 := BW.cell p0
            have Zp1 := BW.cell p1
            have Zp2 := BW.cell p2
            have Zp3 := BW.cell p3
            have Zp4 := BW.cell p4
            have Zp5 := BW.cell p5
            have Zp6 := BW.cell p6
            have Zp7 := BW.cell p7
            have Zp8 := BW.cell p8
            go_upto_region 12 with fail
            have HF2z := Lib.hid (fun z : BW W10 => HFd2.out z.v acc10 (HO10.out.below z.h))
            have HRz := Lib.hid (fun z : BW W10 => HRs.out z.v acc10 (HO10.out.below z.h))
            refine wp_region_belowM 5 (by kernel_rfl) (by kernel_rfl) (by kernel_rfl) (by kernel_rfl) (fun _ _ _ _ h => h) rfl ?_
            apply Exists.intro
            refine ⟨fun w => ?_, ?_⟩
            · go_simp
              try rfl
            try simp only [Act.put]
            try simp only [List.setIfInBounds_toArray]
            try simp only [List.set_cons_succ]
            try simp only [List.set_cons_zero]
            simp only [List.take_succ_cons, List.take_zero, List.drop_succ_cons, List.drop_zero]
            repeat (go_big_quiet_step (first | (go_at_call 57; with_reducible exact BW.calls (HF2z.out _)) | (go_at_call 56; with_reducible exact BW.calls (HRz.out _))))
            refine wpQuiet_nil ?_
            rintro W12q ⟨⟨_, hbq⟩, rfl⟩
            have HO12q := Lib.hid (HO10.out.below hbq)
            clear hbq HO10 HF2z HRz
            clear t0 j0 j1 p0 p1 p2 p3 p4 p5 p6 p7 p8 Zt0 Zj0 Zj1 Zp0 Zp1 Zp2 Zp3 Zp4 Zp5 Zp6 Zp7 Zp8
            go_wp2_with fail
            with_reducible refine (HSp12.out _).mono ?_
            rintro e W12c ⟨rfl, hb⟩
            have HO12c := Lib.hid (HO12q.out.below hb)
            clear hb HO12q HSp12
            have HAc := Lib.hid (HAd2.out _ _ A12 HO12c.out.tl (by have := HLn.out; omega))
            obtain ⟨acc12, hacc12⟩ : ∃ a, a = acc10 ++ ([32] ++ A12.data.toList) := ⟨_, rfl⟩
            rw [← hacc12] at HAc
            have n12 : acc12.length = acc10.length + 1 + A12.size := by rw [hacc12, List.length_append, List.length_append, len_toList]; show _ + (1 + _) = _; omega
            have HC12 := Lib.hid hacc12
            clear hacc12
            go_wp2_with fail
            with_reducible refine (HAc.out).mono ?_
            rintro e W12 ⟨rfl, ht, hk⟩
            have HO12 := Lib.hid (HTell.out _ _ HO12c.out _ _ ht hk)
            clear ht hk HO12c HAc
            go_wp2_with fail
            go_end0
            refine ⟨rfl, ?_, HO12.out.kq⟩
            have hfin := HO12.out.tl
            rw [HC12.out, HC10.out, HC5.out, HC4.out, HC3.out] at hfin
            rw [HOne.out, HV8.out, HV10.out, HY.out]
            simpa only [List.append_assoc, List.append_nil, List.nil_append] using hfin
        · have hkx : (K0.toList == [116, 101, 120, 116]) = false := by rw [HK0.out]; exact decide_eq_false hty
          have HV10 : Hid (X10 = []) := HX10.out.trans (if_neg (fun e => e.elim (fun e1 => e1.2 hne) hty))
          clear hty
          obtain ⟨p0, p1, p2, p3, p4, p5, p6, p7, p8⟩ := part_cells HO5.out.pt
          have t1 := HO5.out.tl.c1
          cases all with
          | false =>
            have HY : Hid (X12 = []) := HX12.out.trans (if_neg (by decide))
            go_wp2_with fail
            go_end0
            refine ⟨rfl, ?_, HO5.out.kq⟩
            have hfin := HO5.out.tl
            rw [HC5.out, HC4.out, HC3.out] at hfin
            rw [HOne.out, HV8.out, HV10.out, HY.out]
            simpa only [List.append_assoc, List.append_nil, List.nil_append] using hfin
          | true =>
            have HY : Hid (X12 = [32] ++ A12.data.toList) := HX12.out.trans (if_pos rfl)
            obtain ⟨p0, p1, p2, p3, p4, p5, p6, p7, p8⟩ := part_cells HO5.out.pt
            obtain ⟨j0, j1⟩ := HO5.out.hc
            have t0 := HO5.out.tl.c0
            have Zt0 := BW.cell t0
            have Zj0 := BW.cell j0
            have Zj1 := BW.cell j1
            have Zp0 := BW.cell p0
            have Zp1 := BW.cell p1
            have Zp2 := BW.cell p2
            have Zp3 := BW.cell p3
            have Zp4 := BW.cell p4
            have Zp5 := BW.cell p5
            have Zp6 := BW.cell p6
            have Zp7 := BW.cell p7
            have Zp8 := BW.cell p8
            go_upto_region 12 with fail
            have HF2z := Lib.hid (fun z : BW W5 => HFd2.out z.v acc5 (HO5.out.below z.h))
            have HRz := Lib.hid (fun z : BW W5 => HRs.out z.v acc5 (HO5.out.below z.h))
            refine wp_region_belowM 5 (by kernel_rfl) (by kernel_rfl) (by kernel_rfl) (by kernel_rfl) (fun _ _ _ _ h => h) rfl ?_
            apply Exists.intro
            refine ⟨fun w => ?_, ?_⟩
            · go_simp
              try rfl
            try simp only [Act.put]
            try simp only [List.setIfInBounds_toArray]
            try simp only [List.set_cons_succ]
            try simp only [List.set_cons_zero]
            simp only [List.take_succ_cons, List.take_zero, List.drop_succ_cons, List.drop_zero]
            repeat (go_big_quiet_step (first | (go_at_call 57; with_reducible exact BW.calls (HF2z.out _)) | (go_at_call 56; with_reducible exact BW.calls (HRz.out _))))
            refine wpQuiet_nil ?_
            rintro W12q ⟨⟨_, hbq⟩, rfl⟩
            have HO12q := Lib.hid (HO5.out.below hbq)
            clear hbq HO5 HF2z HRz
            clear t0 j0 j1 p0 p1 p2 p3 p4 p5 p6 p7 p8 Zt0 Zj0 Zj1 Zp0 Zp1 Zp2 Zp3 Zp4 Zp5 Zp6 Zp7 Zp8
            go_wp2_with fail
            with_reducible refine (HSp12.out _).mono ?_
            rintro e W12c ⟨rfl, hb⟩
            have HO12c := Lib.hid (HO12q.out.below hb)
            clear hb HO12q HSp12
            have HAc := Lib.hid (HAd2.out _ _ A12 HO12c.out.tl (by have := HLn.out; omega))
            obtain ⟨acc12, hacc12⟩ : ∃ a, a = acc5 ++ ([32] ++ A12.data.toList) := ⟨_, rfl⟩
            rw [← hacc12] at HAc
            have n12 : acc12.length = acc5.length + 1 + A12.size := by rw [hacc12, List.length_append, List.length_append, len_toList]; show _ + (1 + _) = _; omega
            have HC12 := Lib.hid hacc12
            clear hacc12
            go_wp2_with fail
            with_reducible refine (HAc.out).mono ?_
            rintro e W12 ⟨rfl, ht, hk⟩
            have HO12 := Lib.hid (HTell.out _ _ HO12c.out _ _ ht hk)
            clear ht hk HO12c HAc
            go_wp2_with fail
            go_end0
            refine ⟨rfl, ?_, HO12.out.kq⟩
            have hfin := HO12.out.tl
            rw [HC12.out, HC5.out, HC4.out, HC3.out] at hfin
            rw [HOne.out, HV8.out, HV10.out, HY.out]
            simpa only [List.append_assoc, List.append_nil, List.nil_append] using hfin
      · have hpos : 0 < ts.length := List.length_pos_iff.2 hne
        have hposI : (0 : Int) < (ts.length : Int) := by omega
        have hposD : decide ((0 : Int) < (ts.length : Int)) = true := decide_eq_true hposI
        obtain ⟨g, a, n, c, a2, n2, c2, rfl, hg, hg0, h9, hcall⟩ := HA.out 0 hpos
        obtain ⟨hk1, hk2⟩ := HKh.out ts[0] (List.getElem_mem hpos)
        have HV8' : Hid (X8 = ([32] : List UInt8) ++ (putE (ofE l (fsOf l ts[0].hd.1 ts[0].hd.2)) ++ ([32] : List UInt8)) ++ stT l all ts[0]) := by
          unfold Hid
          rw [HX8.out]
          cases ts with
          | nil => exact absurd rfl hne
          | cons t r => rfl
        have HV10 : Hid (X10 = [32] ++ L0.data.toList) := HX10.out.trans (if_pos (.inl ⟨rfl, hne⟩))
        obtain ⟨tk, htk⟩ : ∃ tk, tk = ts[0] := ⟨_, rfl⟩
        rw [← htk] at h9 hcall hk1 hk2 HV8'
        clear htk
        obtain ⟨en, hen⟩ : ∃ en, en = ofE l (fsOf l tk.hd.1 tk.hd.2) := ⟨_, rfl⟩
        have HSz := ofE_sized l (fsOf l tk.hd.1 tk.hd.2) (by omega)
        have zEV := env_len l (fsOf l tk.hd.1 tk.hd.2) hbig
        have HEof := Lib.hid (fun W acc' (h : On B T H J (partO 2 h1 h2 b1 b2 (.slice (some ⟨g, 0, none⟩) ts.length kc) (.slice ca cn cc) e1 e2) ao cap fo fc all l fs w0 w acc' W) => eof_any (.slice ao l.length cap) l tk.hd.1 tk.hd.2 (tk.kind : Int) (tk.bd.1 : Int) (tk.bd.2 : Int) (tk.e.1 : Int) (tk.e.2 : Int) a a2 n c n2 c2 W (HVo.out W acc' h) (by omega) hk1 hk2)
        unfold ofPost at HEof
        rw [← hen] at HEof HSz zEV HV8'
        have HPt := Lib.hid (fun u0 u1 u2 u3 u4 u5 W (h : EnvAt W en u0 u1 u2 u3 u4 u5) (h2 : tab W) => eput_gen en u0 u1 u2 u3 u4 u5 W h HSz h2)
        unfold envV at HEof HPt
        obtain ⟨EV, hEV⟩ : ∃ A : ByteArray, A = ⟨(putE en).toArray⟩ := ⟨_, rfl⟩
        rw [← hEV] at HPt
        rw [← str_size hEV] at zEV
        rw [show putE en = EV.data.toList by rw [hEV]] at HV8'
        obtain ⟨ST, hST⟩ : ∃ S, S = stT l all tk := ⟨_, rfl⟩
        have HV8 := HV8'
        rw [← hST] at HV8 hcall
        have HCa := Lib.hid hcall
        have hlq : A3.size + (1 + A4.size) + (1 + A5.size) + (1 + (EV.size + 1)) + ST.length ≤ (oneS l fs all 2 b1 b2 ts).length := by
          rw [HOne.out, HV8.out]
          simp only [List.length_append, len_toList, List.length_cons, List.length_nil]
          omega
        have HLq : Hid (acc.length + A3.size + 1 + A4.size + 1 + A5.size + 1 + EV.size + 1 + ST.length ≤ 130000000000000) := by have := HLn.out; unfold Hid; omega
        clear hST hEV hen hcall HSz HV8' hlq
        have h9o := h9.block (HO5.out.b0.block g hg)
        unfold nineAt at h9o
        simp only [Nat.zero_mul, Nat.zero_add] at h9o
        obtain ⟨k0, k1, k2, k3, k4, k5, k6, k7, k8⟩ := h9o
        obtain ⟨p0, p1, p2, p3, p4, p5, p6, p7, p8⟩ := part_cells HO5.out.pt
        obtain ⟨j0, j1⟩ := HO5.out.hc
        have t0 := HO5.out.tl.c0
        have Zt0 := BW.cell t0
        have Zj0 := BW.cell j0
        have Zj1 := BW.cell j1
        have Zp0 := BW.cell p0
        have Zp1 := BW.cell p1
        have Zp2 := BW.cell p2
        have Zp3 := BW.cell p3
        have Zp4 := BW.cell p4
        have Zp5 := BW.cell p5
        have Zp6 := BW.cell p6
        have Zp7 := BW.cell p7
        have Zp8 := BW.cell p8
        have Zk0 := BW.cell k0
        have Zk1 := BW.cell k1
        have Zk2 := BW.cell k2
        have Zk3 := BW.cell k3
        have Zk4 := BW.cell k4
        have Zk5 := BW.cell k5
        have Zk6 := BW.cell k6
        have Zk7 := BW.cell k7
        have Zk8 := BW.cell k8
        go_upto_region 8 with fail
        refine wp_region_belowM 9 (by kernel_rfl) (by kernel_rfl) (by kernel_rfl) (by kernel_rfl) (fun _ _ _ _ h => h) rfl ?_
        apply Exists.intro
        refine ⟨fun w => ?_, ?_⟩
        · go_simp
          try rfl
        try simp only [Act.put]
        try simp only [List.setIfInBounds_toArray]
        try simp only [List.set_cons_succ]
        try simp only [List.set_cons_zero]
        simp only [List.take_succ_cons, List.take_zero, List.drop_succ_cons, List.drop_zero]
        repeat (go_big_quiet_step (fail))
        refine wpQuiet_nil ?_
        rintro W8q ⟨⟨_, hbq⟩, rfl⟩
        have HO8q := Lib.hid (HO5.out.below hbq)
        clear hbq HO5
        clear t0 j0 j1 p0 p1 p2 p3 p4 p5 p6 p7 p8 Zt0 Zj0 Zj1 Zp0 Zp1 Zp2 Zp3 Zp4 Zp5 Zp6 Zp7 Zp8
        clear k0 k1 k2 k3 k4 k5 k6 k7 k8 Zk0 Zk1 Zk2 Zk3 Zk4 Zk5 Zk6 Zk7 Zk8
        go_wp2_with fail
        with_reducible refine (HEof.out _ _ HO8q.out).mono ?_
        rintro e W8a ⟨u0, u1, u2, u3, u4, u5, rfl, hEn, hb⟩
        have HO8a := Lib.hid (HO8q.out.below hb)
        clear hb HO8q
        go_wp2_with fail
        with_reducible refine (HPt.out _ _ _ _ _ _ _ hEn (HTo.out _ _ HO8a.out)).mono ?_
        rintro e W8c ⟨rfl, hb⟩
        have HO8c := Lib.hid (HO8a.out.below hb)
        clear hb HO8a hEn HEof HPt
        have HAc := Lib.hid (HAd3.out _ _ EV HO8c.out.tl (by have := HLn.out; omega))
        obtain ⟨acc8, hacc8⟩ : ∃ a : List UInt8, a = acc5 ++ (([32] : List UInt8) ++ (EV.data.toList ++ ([32] : List UInt8))) := ⟨_, rfl⟩
        rw [← hacc8] at HAc
        have n8 : acc8.length = acc5.length + 1 + EV.size + 1 := by rw [hacc8]; simp only [List.length_append, len_toList, List.length_cons, List.length_nil]; omega
        have HC8 := Lib.hid hacc8
        clear hacc8
        go_wp2_with fail
        with_reducible refine (HAc.out).mono ?_
        rintro e W8 ⟨rfl, ht, hk⟩
        have HO8 := Lib.hid (HTell.out _ _ HO8c.out _ _ ht hk)
        clear ht hk HO8c HAc
        have HCb := Lib.hid (HCa.out _ _ HO8.out.b0 HO8.out.tl (by have := HLq.out; omega))
        unfold tellP at HCb
        have h9o := h9.block (HO8.out.b0.block g hg)
        unfold nineAt at h9o
        simp only [Nat.zero_mul, Nat.zero_add] at h9o
        obtain ⟨k0, k1, k2, k3, k4, k5, k6, k7, k8⟩ := h9o
        obtain ⟨p0, p1, p2, p3, p4, p5, p6, p7, p8⟩ := part_cells HO8.out.pt
        go_wp2_with fail
        with_reducible refine (HCb.out).mono ?_
        rintro e W9 ⟨rfl, ht, hk⟩
        have HO9 := Lib.hid (HTell.out _ _ HO8.out _ _ ht hk)
        clear ht hk HO8 HCb k0 k1 k2 k3 k4 k5 k6 k7 k8
        clear p0 p1 p2 p3 p4 p5 p6 p7 p8
        obtain ⟨acc9, hacc9⟩ : ∃ a, a = acc8 ++ ST := ⟨_, rfl⟩
        rw [← hacc9] at HO9
        have n9 : acc9.length ≤ 130000000000000 := by have := HLq.out; rw [hacc9, List.length_append]; omega
        have HC9 := Lib.hid hacc9
        clear hacc9
        obtain ⟨p0, p1, p2, p3, p4, p5, p6, p7, p8⟩ := part_cells HO9.out.pt
        obtain ⟨j0, j1⟩ := HO9.out.hc
        have t0 := HO9.out.tl.c0
        have Zt0 := BW.cell t0
        have Zj0 := BW.cell j0
        have Zj1 := BW.cell j1
        have Zp0 := BW.cell p0
        have Zp1 := BW.cell p1
        have Zp2 := BW.cell p2
        have Zp3 := BW.cell p3
        have Zp4 := BW.cell p4
        have Zp5 := BW.cell p5
        have Zp6 := BW.cell p6
        have Zp7 := BW.cell p7
        have Zp8 := BW.cell p8
        go_upto_region 10 with fail
        have HCz := Lib.hid (fun z : BW W9 => HCt.out z.v acc9 (HO9.out.below z.h))
        have HTz := Lib.hid (fun z : BW W9 => HTo.out z.v acc9 (HO9.out.below z.h))
        refine wp_region_belowM 9 (by kernel_rfl) (by kernel_rfl) (by kernel_rfl) (by kernel_rfl) (fun _ _ _ _ h => h) rfl ?_
        apply Exists.intro
        refine ⟨fun w => ?_, ?_⟩
        · go_simp
          try rfl
        try simp only [Act.put]
        try simp only [List.setIfInBounds_toArray]
        try simp only [List.set_cons_succ]
        try simp only [List.set_cons_zero]
        simp only [List.take_succ_cons, List.take_zero, List.drop_succ_cons, List.drop_zero]
        repeat (go_big_quiet_step (first | (go_at_call 62; with_reducible exact BW.calls (HCz.out _)) | (go_at_call 59; with_reducible exact BW.calls (HDl.out _ (HTz.out _)))))
        refine wpQuiet_nil ?_
        rintro W10q ⟨⟨_, hbq⟩, rfl⟩
        have HO10q := Lib.hid (HO9.out.below hbq)
        clear hbq HO9 HCz HTz
        clear t0 j0 j1 p0 p1 p2 p3 p4 p5 p6 p7 p8 Zt0 Zj0 Zj1 Zp0 Zp1 Zp2 Zp3 Zp4 Zp5 Zp6 Zp7 Zp8
        have HO10c := HO10q
        clear HO10q
        have HAc := Lib.hid (HAd2.out _ _ L0 HO10c.out.tl (by have := HLn.out; omega))
        obtain ⟨acc10, hacc10⟩ : ∃ a, a = acc9 ++ ([32] ++ L0.data.toList) := ⟨_, rfl⟩
        rw [← hacc10] at HAc
        have n10 : acc10.length = acc9.length + 1 + L0.size := by rw [hacc10, List.length_append, List.length_append, len_toList]; show _ + (1 + _) = _; omega
        have HC10 := Lib.hid hacc10
        clear hacc10
        go_wp2_with fail
        with_reducible refine (HAc.out).mono ?_
        rintro e W10 ⟨rfl, ht, hk⟩
        have HO10 := Lib.hid (HTell.out _ _ HO10c.out _ _ ht hk)
        clear ht hk HO10c HAc
        have t1 := HO10.out.tl.c1
        cases all with
        | false =>
          have HY : Hid (X12 = []) := HX12.out.trans (if_neg (by decide))
          go_wp2_with fail
          go_end0
          refine ⟨rfl, ?_, HO10.out.kq⟩
          have hfin := HO10.out.tl
          rw [HC10.out, HC9.out, HC8.out, HC5.out, HC4.out, HC3.out] at hfin
          rw [HOne.out, HV8.out, HV10.out, HY.out]
          simpa only [List.append_assoc, List.append_nil, List.nil_append] using hfin
        | true =>
          have HY : Hid (X12 = [32] ++ A12.data.toList) := HX12.out.trans (if_pos rfl)
          obtain ⟨p0, p1, p2, p3, p4, p5, p6, p7, p8⟩ := part_cells HO10.out.pt
          obtain ⟨j0, j1⟩ := HO10.out.hc
          have t0 := HO10.out.tl.c0
          have Zt0 := BW.cell t0
          have Zj0 := BW.cell j0
          have Zj1 := BW.cell j1
          have Zp0 := BW.cell p0
          have Zp1 := BW.cell p1
          have Zp2 := BW.cell p2
          have Zp3 := BW.cell p3
          have Zp4 := BW.cell p4
          have Zp5 := BW.cell p5
          have Zp6 := BW.cell p6
          have Zp7 := BW.cell p7
          have Zp8 := BW.cell p8
          go_upto_region 12 with fail
          have HF2z := Lib.hid (fun z : BW W10 => HFd2.out z.v acc10 (HO10.out.below z.h))
          have HRz := Lib.hid (fun z : BW W10 => HRs.out z.v acc10 (HO10.out.below z.h))
          refine wp_region_belowM 5 (by kernel_rfl) (by kernel_rfl) (by kernel_rfl) (by kernel_rfl) (fun _ _ _ _ h => h) rfl ?_
          apply Exists.intro
          refine ⟨fun w => ?_, ?_⟩
          · go_simp
            try rfl
          try simp only [Act.put]
          try simp only [List.setIfInBounds_toArray]
          try simp only [List.set_cons_succ]
          try simp only [List.set_cons_zero]
          simp only [List.take_succ_cons, List.take_zero, List.drop_succ_cons, List.drop_zero]
          repeat (go_big_quiet_step (first | (go_at_call 57; with_reducible exact BW.calls (HF2z.out _)) | (go_at_call 56; with_reducible exact BW.calls (HRz.out _))))
          refine wpQuiet_nil ?_
          rintro W12q ⟨⟨_, hbq⟩, rfl⟩
          have HO12q := Lib.hid (HO10.out.below hbq)
          clear hbq HO10 HF2z HRz
          clear t0 j0 j1 p0 p1 p2 p3 p4 p5 p6 p7 p8 Zt0 Zj0 Zj1 Zp0 Zp1 Zp2 Zp3 Zp4 Zp5 Zp6 Zp7 Zp8
          go_wp2_with fail
          with_reducible refine (HSp12.out _).mono ?_
          rintro e W12c ⟨rfl, hb⟩
          have HO12c := Lib.hid (HO12q.out.below hb)
          clear hb HO12q HSp12
          have HAc := Lib.hid (HAd2.out _ _ A12 HO12c.out.tl (by have := HLn.out; omega))
          obtain ⟨acc12, hacc12⟩ : ∃ a, a = acc10 ++ ([32] ++ A12.data.toList) := ⟨_, rfl⟩
          rw [← hacc12] at HAc
          have n12 : acc12.length = acc10.length + 1 + A12.size := by rw [hacc12, List.length_append, List.length_append, len_toList]; show _ + (1 + _) = _; omega
          have HC12 := Lib.hid hacc12
          clear hacc12
          go_wp2_with fail
          with_reducible refine (HAc.out).mono ?_
          rintro e W12 ⟨rfl, ht, hk⟩
          have HO12 := Lib.hid (HTell.out _ _ HO12c.out _ _ ht hk)
          clear ht hk HO12c HAc
          go_wp2_with fail
          go_end0
          refine ⟨rfl, ?_, HO12.out.kq⟩
          have hfin := HO12.out.tl
          rw [HC12.out, HC10.out, HC9.out, HC8.out, HC5.out, HC4.out, HC3.out] at hfin
          rw [HOne.out, HV8.out, HV10.out, HY.out]
          simpa only [List.append_assoc, List.append_nil, List.nil_append] using hfin
    · have e2 : ((kd : Int) == 2) = false := int_beq hk2
      have HV8 : Hid (X8 = []) := HX8.out.trans (if_neg hk2)
      by_cases hty : ty = txtN
      · have hkx : (K0.toList == [116, 101, 120, 116]) = true := by rw [HK0.out, hty]; exact decide_eq_true rfl
        have HV10 : Hid (X10 = [32] ++ L0.data.toList) := HX10.out.trans (if_pos (.inr hty))
        clear hty
        obtain ⟨p0, p1, p2, p3, p4, p5, p6, p7, p8⟩ := part_cells HO5.out.pt
        obtain ⟨j0, j1⟩ := HO5.out.hc
        have t0 := HO5.out.tl.c0
        have Zt0 := BW.cell t0
        have Zj0 := BW.cell j0
        have Zj1 := BW.cell j1
        have Zp0 := BW.cell p0
        have Zp1 := BW.cell p1
        have Zp2 := BW.cell p2
        have Zp3 := BW.cell p3
        have Zp4 := BW.cell p4
        have Zp5 := BW.cell p5
        have Zp6 := BW.cell p6
        have Zp7 := BW.cell p7
        have Zp8 := BW.cell p8
        go_upto_region 10 with fail
        have HCz := Lib.hid (fun z : BW W5 => HCt.out z.v acc5 (HO5.out.below z.h))
        have HTz := Lib.hid (fun z : BW W5 => HTo.out z.v acc5 (HO5.out.below z.h))
        refine wp_region_belowM 9 (by kernel_rfl) (by kernel_rfl) (by kernel_rfl) (by kernel_rfl) (fun _ _ _ _ h => h) rfl ?_
        apply Exists.intro
        refine ⟨fun w => ?_, ?_⟩
        · go_simp
          try rfl
        try simp only [Act.put]
        try simp only [List.setIfInBounds_toArray]
        try simp only [List.set_cons_succ]
        try simp only [List.set_cons_zero]
        simp only [List.take_succ_cons, List.take_zero, List.drop_succ_cons, List.drop_zero]
        repeat (go_big_quiet_step (first | (go_at_call 62; with_reducible exact BW.calls (HCz.out _)) | (go_at_call 59; with_reducible exact BW.calls (HDl.out _ (HTz.out _)))))
        refine wpQuiet_nil ?_
        rintro W10q ⟨⟨_, hbq⟩, rfl⟩
        have HO10q := Lib.hid (HO5.out.below hbq)
        clear hbq HO5 HCz HTz
        clear t0 j0 j1 p0 p1 p2 p3 p4 p5 p6 p7 p8 Zt0 Zj0 Zj1 Zp0 Zp1 Zp2 Zp3 Zp4 Zp5 Zp6 Zp7 Zp8
        have HO10c := HO10q
        clear HO10q
        have HAc := Lib.hid (HAd2.out _ _ L0 HO10c.out.tl (by have := HLn.out; omega))
        obtain ⟨acc10, hacc10⟩ : ∃ a, a = acc5 ++ ([32] ++ L0.data.toList) := ⟨_, rfl⟩
        rw [← hacc10] at HAc
        have n10 : acc10.length = acc5.length + 1 + L0.size := by rw [hacc10, List.length_append, List.length_append, len_toList]; show _ + (1 + _) = _; omega
        have HC10 := Lib.hid hacc10
        clear hacc10
        go_wp2_with fail
        with_reducible refine (HAc.out).mono ?_
        rintro e W10 ⟨rfl, ht, hk⟩
        have HO10 := Lib.hid (HTell.out _ _ HO10c.out _ _ ht hk)
        clear ht hk HO10c HAc
        have t1 := HO10.out.tl.c1
        cases all with
        | false =>
          have HY : Hid (X12 = []) := HX12.out.trans (if_neg (by decide))
          go_wp2_with fail
          go_end0
          refine ⟨rfl, ?_, HO10.out.kq⟩
          have hfin := HO10.out.tl
          rw [HC10.out, HC5.out, HC4.out, HC3.out] at hfin
          rw [HOne.out, HV8.out, HV10.out, HY.out]
          simpa only [List.append_assoc, List.append_nil, List.nil_append] using hfin
        | true =>
          have HY : Hid (X12 = [32] ++ A12.data.toList) := HX12.out.trans (if_pos rfl)
          obtain ⟨p0, p1, p2, p3, p4, p5, p6, p7, p8⟩ := part_cells HO10.out.pt
          obtain ⟨j0, j1⟩ := HO10.out.hc
          have t0 := HO10.out.tl.c0
          have Zt0 := BW.cell t0
          have Zj0 := BW.cell j0
          have Zj1 := BW.cell j1
          have Zp0 := BW.cell p0
          have Zp1 := BW.cell p1
          have Zp2 := BW.cell p2
          have Zp3 := BW.cell p3
          have Zp4 := BW.cell p4
          have Zp5 := BW.cell p5
          have Zp6 := BW.cell p6
          have Zp7 := BW.cell p7
          have Zp8 := BW.cell p8
          go_upto_region 12 with fail
          have HF2z := Lib.hid (fun z : BW W10 => HFd2.out z.v acc10 (HO10.out.below z.h))
          have HRz := Lib.hid (fun z : BW W10 => HRs.out z.v acc10 (HO10.out.below z.h))
          refine wp_region_belowM 5 (by kernel_rfl) (by kernel_rfl) (by kernel_rfl) (by kernel_rfl) (fun _ _ _ _ h => h) rfl ?_
          apply Exists.intro
          refine ⟨fun w => ?_, ?_⟩
          · go_simp
            try rfl
          try simp only [Act.put]
          try simp only [List.setIfInBounds_toArray]
          try simp only [List.set_cons_succ]
          try simp only [List.set_cons_zero]
          simp only [List.take_succ_cons, List.take_zero, List.drop_succ_cons, List.drop_zero]
          repeat (go_big_quiet_step (first | (go_at_call 57; with_reducible exact BW.calls (HF2z.out _)) | (go_at_call 56; with_reducible exact BW.calls (HRz.out _))))
          refine wpQuiet_nil ?_
          rintro W12q ⟨⟨_, hbq⟩, rfl⟩
          have HO12q := Lib.hid (HO10.out.below hbq)
          clear hbq HO10 HF2z HRz
          clear t0 j0 j1 p0 p1 p2 p3 p4 p5 p6 p7 p8 Zt0 Zj0 Zj1 Zp0 Zp1 Zp2 Zp3 Zp4 Zp5 Zp6 Zp7 Zp8
          go_wp2_with fail
          with_reducible refine (HSp12.out _).mono ?_
          rintro e W12c ⟨rfl, hb⟩
          have HO12c := Lib.hid (HO12q.out.below hb)
          clear hb HO12q HSp12
          have HAc := Lib.hid (HAd2.out _ _ A12 HO12c.out.tl (by have := HLn.out; omega))
          obtain ⟨acc12, hacc12⟩ : ∃ a, a = acc10 ++ ([32] ++ A12.data.toList) := ⟨_, rfl⟩
          rw [← hacc12] at HAc
          have n12 : acc12.length = acc10.length + 1 + A12.size := by rw [hacc12, List.length_append, List.length_append, len_toList]; show _ + (1 + _) = _; omega
          have HC12 := Lib.hid hacc12
          clear hacc12
          go_wp2_with fail
          with_reducible refine (HAc.out).mono ?_
          rintro e W12 ⟨rfl, ht, hk⟩
          have HO12 := Lib.hid (HTell.out _ _ HO12c.out _ _ ht hk)
          clear ht hk HO12c HAc
          go_wp2_with fail
          go_end0
          refine ⟨rfl, ?_, HO12.out.kq⟩
          have hfin := HO12.out.tl
          rw [HC12.out, HC10.out, HC5.out, HC4.out, HC3.out] at hfin
          rw [HOne.out, HV8.out, HV10.out, HY.out]
          simpa only [List.append_assoc, List.append_nil, List.nil_append] using hfin
      · have hkx : (K0.toList == [116, 101, 120, 116]) = false := by rw [HK0.out]; exact decide_eq_false hty
        have HV10 : Hid (X10 = []) := HX10.out.trans (if_neg (fun e => e.elim (fun e1 => hk2 e1.1) hty))
        clear hty
        obtain ⟨p0, p1, p2, p3, p4, p5, p6, p7, p8⟩ := part_cells HO5.out.pt
        have t1 := HO5.out.tl.c1
        cases all with
        | false =>
          have HY : Hid (X12 = []) := HX12.out.trans (if_neg (by decide))
          go_wp2_with fail
          go_end0
          refine ⟨rfl, ?_, HO5.out.kq⟩
          have hfin := HO5.out.tl
          rw [HC5.out, HC4.out, HC3.out] at hfin
          rw [HOne.out, HV8.out, HV10.out, HY.out]
          simpa only [List.append_assoc, List.append_nil, List.nil_append] using hfin
        | true =>
          have HY : Hid (X12 = [32] ++ A12.data.toList) := HX12.out.trans (if_pos rfl)
          obtain ⟨p0, p1, p2, p3, p4, p5, p6, p7, p8⟩ := part_cells HO5.out.pt
          obtain ⟨j0, j1⟩ := HO5.out.hc
          have t0 := HO5.out.tl.c0
          have Zt0 := BW.cell t0
          have Zj0 := BW.cell j0
          have Zj1 := BW.cell j1
          have Zp0 := BW.cell p0
          have Zp1 := BW.cell p1
          have Zp2 := BW.cell p2
          have Zp3 := BW.cell p3
          have Zp4 := BW.cell p4
          have Zp5 := BW.cell p5
          have Zp6 := BW.cell p6
          have Zp7 := BW.cell p7
          have Zp8 := BW.cell p8
          go_upto_region 12 with fail
          have HF2z := Lib.hid (fun z : BW W5 => HFd2.out z.v acc5 (HO5.out.below z.h))
          have HRz := Lib.hid (fun z : BW W5 => HRs.out z.v acc5 (HO5.out.below z.h))
          refine wp_region_belowM 5 (by kernel_rfl) (by kernel_rfl) (by kernel_rfl) (by kernel_rfl) (fun _ _ _ _ h => h) rfl ?_
          apply Exists.intro
          refine ⟨fun w => ?_, ?_⟩
          · go_simp
            try rfl
          try simp only [Act.put]
          try simp only [List.setIfInBounds_toArray]
          try simp only [List.set_cons_succ]
          try simp only [List.set_cons_zero]
          simp only [List.take_succ_cons, List.take_zero, List.drop_succ_cons, List.drop_zero]
          repeat (go_big_quiet_step (first | (go_at_call 57; with_reducible exact BW.calls (HF2z.out _)) | (go_at_call 56; with_reducible exact BW.calls (HRz.out _))))
          refine wpQuiet_nil ?_
          rintro W12q ⟨⟨_, hbq⟩, rfl⟩
          have HO12q := Lib.hid (HO5.out.below hbq)
          clear hbq HO5 HF2z HRz
          clear t0 j0 j1 p0 p1 p2 p3 p4 p5 p6 p7 p8 Zt0 Zj0 Zj1 Zp0 Zp1 Zp2 Zp3 Zp4 Zp5 Zp6 Zp7 Zp8
          go_wp2_with fail
          with_reducible refine (HSp12.out _).mono ?_
          rintro e W12c ⟨rfl, hb⟩
          have HO12c := Lib.hid (HO12q.out.below hb)
          clear hb HO12q HSp12
          have HAc := Lib.hid (HAd2.out _ _ A12 HO12c.out.tl (by have := HLn.out; omega))
          obtain ⟨acc12, hacc12⟩ : ∃ a, a = acc5 ++ ([32] ++ A12.data.toList) := ⟨_, rfl⟩
          rw [← hacc12] at HAc
          have n12 : acc12.length = acc5.length + 1 + A12.size := by rw [hacc12, List.length_append, List.length_append, len_toList]; show _ + (1 + _) = _; omega
          have HC12 := Lib.hid hacc12
          clear hacc12
          go_wp2_with fail
          with_reducible refine (HAc.out).mono ?_
          rintro e W12 ⟨rfl, ht, hk⟩
          have HO12 := Lib.hid (HTell.out _ _ HO12c.out _ _ ht hk)
          clear ht hk HO12c HAc
          go_wp2_with fail
          go_end0
          refine ⟨rfl, ?_, HO12.out.kq⟩
          have hfin := HO12.out.tl
          rw [HC12.out, HC5.out, HC4.out, HC3.out] at hfin
          rw [HOne.out, HV8.out, HV10.out, HY.out]
          simpa only [List.append_assoc, List.append_nil, List.nil_append] using hfin
end Go.Proofs.YtkmgflnmffdhjaaGreatDoor
