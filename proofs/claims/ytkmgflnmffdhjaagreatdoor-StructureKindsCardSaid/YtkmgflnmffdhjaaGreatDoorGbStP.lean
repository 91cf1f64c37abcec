/- What a message is laid of, in plain words. No program. -/
import Derived.Test.YtkmgflnmffdhjaaGreatDoorGbTrO
import Derived.Test.YtkmgflnmffdhjaaGreatDoorGbStO
namespace Go.Proofs.YtkmgflnmffdhjaaGreatDoor
open Go Go.RowKit

theorem kidsRun_cnt {F : Sp → Nat → Tr × Nat} (h : ∀ s c, (F s c).2 + 1 = c + countT (F s c).1) : ∀ (ss : List Sp) (c : Nat), (kidsRun F ss c).2 + ss.length = c + countK (kidsRun F ss c).1
  | [], c => rfl
  | s :: r, c => by
    have ih := kidsRun_cnt h r (F s c).2
    have h1 := h s c
    show (kidsRun F r (F s c).2).2 + (r.length + 1) = c + (countT (F s c).1 + countK (kidsRun F r (F s c).2).1)
    omega
theorem entS_cnt (l : List UInt8) : ∀ (d : Nat) (s : Sp) (g : Bool) (c : Nat), (entS l d s g c).2 + 1 = c + countT (entS l d s g c).1
  | 0, s, g, c => rfl
  | d + 1, s, g, c => by
    by_cases hc : (pdS l (fsOf l s.1 s.2) (hdOf l s.1 s.2) s.2 (typeS l (fsOf l s.1 s.2) g)).kids = [] ∨ 1000 < c + (pdS l (fsOf l s.1 s.2) (hdOf l s.1 s.2) s.2 (typeS l (fsOf l s.1 s.2) g)).kids.length
    · rw [entS_leaf hc]
      rfl
    · rw [entS_kids rfl rfl hc]
      have h := kidsRun_cnt (F := fun s' c' => entS l d s' (digS (typeS l (fsOf l s.1 s.2) g)) c') (fun s' c' => entS_cnt l d s' _ c') (pdS l (fsOf l s.1 s.2) (hdOf l s.1 s.2) s.2 (typeS l (fsOf l s.1 s.2) g)).kids (c + (pdS l (fsOf l s.1 s.2) (hdOf l s.1 s.2) s.2 (typeS l (fsOf l s.1 s.2) g)).kids.length)
      show (kidsRun _ _ _).2 + 1 = c + (1 + countK (kidsRun _ _ _).1)
      omega
theorem tree_count (l : List UInt8) : countT (treeS l) ≤ 1000 := by
  have h1 := entS_cnt l 32 (0, l.length) false 1
  have h2 := entS_le l 32 (0, l.length) false 1 (by decide)
  unfold treeS
  omega
end Go.Proofs.YtkmgflnmffdhjaaGreatDoor

/- Places in order within so many bytes, in plain words. (Of the text of layer 16.) -/
namespace Go.Proofs.YtkmgflnmffdhjaaGreatDoor
open Go Go.RowKit

mutual
/-- Places in order, within so many bytes. -/
def okT (n : Nat) : Tr → Prop
  | .mk _ hd bd ks _ _ => (hd.1 ≤ hd.2 ∧ hd.2 = bd.1 ∧ bd.1 ≤ bd.2 ∧ bd.2 ≤ n) ∧ okK n ks
def okK (n : Nat) : List Tr → Prop
  | [] => True
  | t :: r => okT n t ∧ okK n r
end
theorem okT_open {n : Nat} {t : Tr} (h : okT n t) : (t.hd.1 ≤ t.hd.2 ∧ t.hd.2 = t.bd.1 ∧ t.bd.1 ≤ t.bd.2 ∧ t.bd.2 ≤ n) ∧ okK n t.kids := by
  cases t
  unfold okT at h
  exact h
theorem okT_mk {n k : Nat} {hd bd : Sp} {ks : List Tr} {cs : List Sp} {e : Sp} (h : hd.1 ≤ hd.2 ∧ hd.2 = bd.1 ∧ bd.1 ≤ bd.2 ∧ bd.2 ≤ n) (hk : okK n ks) : okT n (.mk k hd bd ks cs e) := by
  unfold okT
  exact ⟨h, hk⟩
theorem okK_nil (n : Nat) : okK n [] := by unfold okK; trivial
theorem okK_mem {n : Nat} : ∀ {ts : List Tr}, okK n ts → ∀ q ∈ ts, okT n q
  | [], _, q, h => by cases h
  | t :: r, hk, q, h => by
    unfold okK at hk
    rcases List.mem_cons.1 h with rfl | h
    · exact hk.1
    · exact okK_mem hk.2 q h
theorem kidsRun_okT {n : Nat} {F : Sp → Nat → Tr × Nat} : ∀ (ss : List Sp) (c : Nat), (∀ s ∈ ss, ∀ c', okT n (F s c').1) → okK n (kidsRun F ss c).1
  | [], _, _ => by unfold kidsRun; exact okK_nil _
  | s :: r, c, h => by
    have ih := kidsRun_okT r (F s c).2 fun s' hs' => h s' (List.mem_cons_of_mem _ hs')
    show okK n ((F s c).1 :: (kidsRun F r (F s c).2).1)
    unfold okK
    exact ⟨h s List.mem_cons_self c, ih⟩
theorem entS_okT (l : List UInt8) : ∀ (d : Nat) (s : Sp) (g : Bool) (c : Nat), s.1 ≤ s.2 → s.2 ≤ l.length → okT l.length (entS l d s g c).1
  | 0, s, g, c, h1, h2 => by
    have hh := hdOf_le l h1 h2
    exact okT_mk ⟨hh.1, rfl, hh.2, h2⟩ (okK_nil _)
  | d + 1, s, g, c, h1, h2 => by
    have hh := hdOf_le l h1 h2
    by_cases hc : (pdS l (fsOf l s.1 s.2) (hdOf l s.1 s.2) s.2 (typeS l (fsOf l s.1 s.2) g)).kids = [] ∨ 1000 < c + (pdS l (fsOf l s.1 s.2) (hdOf l s.1 s.2) s.2 (typeS l (fsOf l s.1 s.2) g)).kids.length
    · rw [entS_leaf hc]
      exact okT_mk ⟨hh.1, rfl, hh.2, h2⟩ (okK_nil _)
    · rw [entS_kids rfl rfl hc]
      have hin := pdS_in l (fsOf l s.1 s.2) hh.2 h2 (typeS l (fsOf l s.1 s.2) g)
      refine okT_mk ⟨hh.1, rfl, hh.2, h2⟩ (kidsRun_okT _ _ fun s' hs' c' => entS_okT l d s' _ c' (hin s' hs').1 (Nat.le_trans (hin s' hs').2 h2))
theorem tree_okT (l : List UInt8) : okT l.length (treeS l) := entS_okT l 32 (0, l.length) false 1 (Nat.zero_le _) (Nat.le_refl _)
end Go.Proofs.YtkmgflnmffdhjaaGreatDoor

/- Layer 20: contracts of package structure: a part is told; Put. -/
namespace Go.Proofs.YtkmgflnmffdhjaaGreatDoor
open Go Go.RowKit

mutual
theorem bds_of {n : Nat} (hn : n ≤ 1500) : ∀ t : Tr, okT n t → t.bd.2 ≤ 1500 ∧ bdsT t
  | .mk k hd bd ks cs e, h => by
    unfold okT at h
    obtain ⟨⟨_, _, _, h4⟩, h5⟩ := h
    have h6 := bdsK_of hn ks h5
    unfold bdsT
    exact ⟨by show bd.2 ≤ _; omega, by omega, h6⟩
theorem bdsK_of {n : Nat} (hn : n ≤ 1500) : ∀ ts : List Tr, okK n ts → bdsK ts
  | [], _ => by unfold bdsK; trivial
  | t :: r, h => by
    unfold okK at h
    have h1 := bds_of hn t h.1
    have h2 := bdsK_of hn r h.2
    unfold bdsK
    exact ⟨h1.1, h1.2, h2⟩
end
theorem st_one (l : List UInt8) (all : Bool) (t : Tr) (hk : t.kind = 1) : stT l all t = [40] ++ (stK l all t.kids ++ mulS l (fsOf l t.hd.1 t.hd.2) all t.kind) ++ [41] := by
  obtain ⟨k, hd, bd, ks, cu, e⟩ := t
  have hk' : k = 1 := hk
  unfold stT mulS
  rw [if_pos hk']
  simp only [List.append_assoc, List.cons_append, List.nil_append]
  rfl
theorem st_other (l : List UInt8) (all : Bool) (t : Tr) (hk : t.kind ≠ 1) : stT l all t = [40] ++ oneS l (fsOf l t.hd.1 t.hd.2) all t.kind t.bd.1 t.bd.2 t.kids ++ [41] := by
  obtain ⟨k, hd, bd, ks, cu, e⟩ := t
  exact oneS_eq l all k hd bd ks cu e hk
theorem ls_op : (⟨#[40]⟩ : ByteArray).data.toList = [40] := rfl
theorem ls_cl : (⟨#[41]⟩ : ByteArray).data.toList = [41] := rfl
theorem sz_op : (⟨#[40]⟩ : ByteArray).size = 1 := rfl
theorem sz_cl : (⟨#[41]⟩ : ByteArray).size = 1 := rfl
set_option maxRecDepth 100000 in
set_option maxHeartbeats 1600000 in
theorem part_step (B T : Nat) (ao : Option Addr) (cap : Nat) (all : Bool) (l acc : List UInt8) (w0 w : World) (t : Tr) (ka ca : Option Addr) (kc cn cc : Nat)
    (hv : bytesArg w0 (.slice ao l.length cap) l) (hbig : l.length ≤ 1500) (he : env w0) (hB0 : B = w0.heap.size) (hb : Below B w0 w) (ht : TlAt B T (.slice ao l.length cap) all (Lib.byteCells acc) w) (hok : okT l.length t)
    (hk : kidP B T (.slice ao l.length cap) all l w0 ka t.kids) (hn : t.kids.length ≤ 1000000000) (hlen : acc.length + (stT l all t).length ≤ 130000000000000) :
    Calls Tryz.prog 14 #[.pointer (some ⟨T, 0, none⟩), .agg #[.int .i64 (t.kind : Int), .int .i64 (t.hd.1 : Int), .int .i64 (t.hd.2 : Int), .int .i64 (t.bd.1 : Int), .int .i64 (t.bd.2 : Int), .slice ka t.kids.length kc, .slice ca cn cc, .int .i64 (t.e.1 : Int), .int .i64 (t.e.2 : Int)]] w
      (tellP B T (.slice ao l.length cap) all (acc ++ stT l all t) w) := by
  obtain ⟨⟨o1, o2, o3, o4⟩, o5⟩ := okT_open hok
  have HKd := Lib.hid (fun q hq => (okT_open (okK_mem o5 q hq)).1)
  have hBw : B ≤ w.heap.size := by rw [hB0]; rw [hB0] at hb; exact hb.size
  obtain ⟨X, hX⟩ : ∃ X, X = w.alloc (partO t.kind t.hd.1 t.hd.2 t.bd.1 t.bd.2 (.slice ka t.kids.length kc) (.slice ca cn cc) t.e.1 t.e.2) := ⟨_, rfl⟩
  have HP : Hid (X.heap[w.heap.size]? = some (partO t.kind t.hd.1 t.hd.2 t.bd.1 t.bd.2 (.slice ka t.kids.length kc) (.slice ca cn cc) t.e.1 t.e.2)) := by rw [hX]; exact heap_alloc_new w _
  have hwX : Below w.heap.size w X := by rw [hX]; exact (Below.refl _ _).alloc (Nat.le_refl _) _
  have HKX : Hid (Kq B T w X) := Kq.of_below hwX hBw
  have HTX := Lib.hid (ht.below hwX)
  have hTw := ht.lt
  have HBX : Hid (Below B w0 X) := hb.trans (hwX.mono hBw)
  have hBX : B ≤ X.heap.size := Nat.le_trans hBw hwX.size
  have HLn := Lib.hid hlen
  have HAd1 := Lib.hid (fun W acc' b (h : TlAt B T (.slice ao l.length cap) all (Lib.byteCells acc') W) hle => add_one B T (.slice ao l.length cap) all acc' b W h hle (Nat.le_of_lt (Nat.lt_of_le_of_lt h.1 h.lt)))
  unfold tellP at HAd1
  have HMu := Lib.hid (fun W acc' (h1 : Below B w0 W) (h2 : TlAt B T (.slice ao l.length cap) all (Lib.byteCells acc') W) h3 => multi_any B T ao cap all l acc' w0 W t.kids t.kind t.hd.1 t.hd.2 t.bd.1 t.bd.2 t.e.1 t.e.2 ka ca kc cn cc hv hbig he hB0 h1 h2 o1 (by omega) hk hn h3)
  have HOn := Lib.hid (fun W acc' (h1 : Below B w0 W) (h2 : TlAt B T (.slice ao l.length cap) all (Lib.byteCells acc') W) h3 => one_any B T ao cap all l acc' w0 W t.kids t.kind t.hd.1 t.hd.2 t.bd.1 t.bd.2 t.e.1 t.e.2 ka ca kc cn cc hv hbig he hB0 h1 h2 o1 (by omega) o3 o4 hk (fun q hq => by have := HKd.out q hq; omega) hn h3)
  unfold tellP at HMu HOn ⊢
  unfold partO at hX
  have HX := Lib.hid hX
  have HS1 := Lib.hid (st_one l all t)
  have HS2 := Lib.hid (st_other l all t)
  obtain ⟨H, hH⟩ : ∃ H, H = w.heap.size := ⟨_, rfl⟩
  rw [← hH] at HP hTw
  have HHw := Lib.hid hH
  clear hX hH hv he hB0 hb ht hok hk hlen hwX o1 o2 o3 o4 o5
  have HAo := Lib.hid (HAd1.out X acc ⟨#[40]⟩ HTX.out (by have := HLn.out; rw [sz_op]; omega))
  rw [ls_op] at HAo
  go_enter Tryz.func14, Tryz.ntmps14
  go_upto_region 1 with fail
  rw [← HX.out, ← HHw.out]
  clear HX
  go_wp2_with fail
  with_reducible refine HAo.out.mono ?_
  rintro e w1 ⟨rfl, ht1, hk1⟩
  have HT1 := Lib.hid ht1
  have HK1 := Lib.hid (HKX.out.trans hk1)
  have HB1 := Lib.hid (HBX.out.trans hk1.1)
  have HP1 := Lib.hid (part_kept hk1 HP.out (by omega))
  obtain ⟨p0, p1, p2, p3, p4, p5, p6, p7, p8⟩ := part_cells HP1.out
  clear ht1 hk1 HAo HTX HKX HBX HP
  by_cases hk1 : t.kind = 1
  · have ek : ((t.kind : Int) == 1) = true := by rw [hk1]; rfl
    have hst := HS1.out hk1
    have hle : (stT l all t).length = 1 + ((stK l all t.kids).length + (mulS l (fsOf l t.hd.1 t.hd.2) all t.kind).length) + 1 := by have h := congrArg List.length hst; simp only [List.length_append, List.length_cons, List.length_nil] at h; omega
    have HCa := Lib.hid (HMu.out w1 _ HB1.out HT1.out (by have := HLn.out; simp only [List.length_append, List.length_cons, List.length_nil]; omega))
    have HSt := Lib.hid hst
    clear hk1 hst HMu HOn
    go_wp2_with fail
    with_reducible refine HCa.out.mono ?_
    rintro e w2 ⟨rfl, ht2, hk2⟩
    have HK2 := Lib.hid (HK1.out.trans hk2)
    have HAc := Lib.hid (HAd1.out w2 _ ⟨#[41]⟩ ht2 (by have := HLn.out; rw [sz_cl]; simp only [List.length_append, List.length_cons, List.length_nil]; omega))
    rw [ls_cl] at HAc
    clear ht2 hk2 HCa p0 p1 p2 p3 p4 p5 p6 p7 p8
    go_wp2_with fail
    with_reducible refine HAc.out.mono ?_
    rintro e w3 ⟨rfl, ht3, hk3⟩
    go_wp2_with fail
    go_end0
    refine ⟨rfl, ?_, HK2.out.trans hk3⟩
    rw [HSt.out]
    simpa only [List.append_assoc] using ht3
  · have ek : ((t.kind : Int) == 1) = false := int_beq hk1
    have hst := HS2.out hk1
    have hle : (stT l all t).length = 1 + (oneS l (fsOf l t.hd.1 t.hd.2) all t.kind t.bd.1 t.bd.2 t.kids).length + 1 := by have h := congrArg List.length hst; simp only [List.length_append, List.length_cons, List.length_nil] at h; omega
    have HCa := Lib.hid (HOn.out w1 _ HB1.out HT1.out (by have := HLn.out; simp only [List.length_append, List.length_cons, List.length_nil]; omega))
    have HSt := Lib.hid hst
    clear hk1 hst HMu HOn
    go_wp2_with fail
    with_reducible refine HCa.out.mono ?_
    rintro e w2 ⟨rfl, ht2, hk2⟩
    have HK2 := Lib.hid (HK1.out.trans hk2)
    have HAc := Lib.hid (HAd1.out w2 _ ⟨#[41]⟩ ht2 (by have := HLn.out; rw [sz_cl]; simp only [List.length_append, List.length_cons, List.length_nil]; omega))
    rw [ls_cl] at HAc
    clear ht2 hk2 HCa p0 p1 p2 p3 p4 p5 p6 p7 p8
    go_wp2_with fail
    with_reducible refine HAc.out.mono ?_
    rintro e w3 ⟨rfl, ht3, hk3⟩
    go_wp2_with fail
    go_end0
    refine ⟨rfl, ?_, HK2.out.trans hk3⟩
    rw [HSt.out]
    simpa only [List.append_assoc] using ht3
theorem countT_pos (t : Tr) : t.kids.length < countT t := by
  have h1 := countT_eq t
  have h2 := lenK_le t.kids
  omega
/-- A part, with all below it. -/
theorem part_any (B T : Nat) (ao : Option Addr) (cap : Nat) (all : Bool) (l : List UInt8) (w0 : World) (hv : bytesArg w0 (.slice ao l.length cap) l) (hbig : l.length ≤ 1500) (he : env w0) (hB0 : B = w0.heap.size) (n : Nat) :
    ∀ (t : Tr), SizeOf.sizeOf t ≤ n → ∀ (S : Nat → Prop) (u : Value), treeAt S w0 t u → okT l.length t → countT t ≤ 1000000000 → ∀ (w : World) (acc : List UInt8), Below B w0 w → TlAt B T (.slice ao l.length cap) all (Lib.byteCells acc) w → acc.length + (stT l all t).length ≤ 130000000000000 →
      Calls Tryz.prog 14 #[.pointer (some ⟨T, 0, none⟩), u] w (tellP B T (.slice ao l.length cap) all (acc ++ stT l all t) w) := by
  induction n with
  | zero => intro t ht; cases t; rw [Tr.mk.sizeOf_spec] at ht; omega
  | succ n ih =>
    intro t ht S u hu hok hcb w acc hb htl hlen
    obtain ⟨ka, kn, kc, ca, cn, cc, us, rfl, _, ho, hk⟩ := treeAt_open hu
    have hka := kids_at ho hk
    obtain ⟨rfl, _, _, hka⟩ := hka
    have hc := countT_pos t
    refine part_step B T ao cap all l acc w0 w t ka ca kc cn cc hv hbig he hB0 hb htl hok ?_ (by omega) hlen
    intro i h
    obtain ⟨g, a, m, c, a2, m2, c2, h1, h2, _, h3, h4⟩ := hka i h
    have hci : countT t.kids[i] ≤ 1000000000 := by
      have h5 := countK_drop t.kids i h
      have h6 := countK_le t.kids i
      have h7 := countT_eq t
      omega
    refine ⟨g, a, m, c, a2, m2, c2, h1, by rw [hB0]; exact h2, h2, h3, fun W' acc' h5 h6 h7 => ?_⟩
    exact ih t.kids[i] (by have := size_kid i h; omega) S _ h4 (okK_mem (okT_open hok).2 _ (List.getElem_mem h)) hci W' acc' h5 h6 h7
set_option maxRecDepth 100000 in
set_option maxHeartbeats 1600000 in
/-- Put of a part of a message's tree. -/
theorem sput_any (ao : Option Addr) (cap : Nat) (all : Bool) (l : List UInt8) (w : World) (hv : bytesArg w (.slice ao l.length cap) l) (hbig : l.length ≤ 1500) (he : env w) (t : Tr) (S : Nat → Prop) (u : Value) (hu : treeAt S w t u) (hok : okT l.length t) (hcb : countT t ≤ 100000) :
    Calls Tryz.prog 9 #[.slice ao l.length cap, u, .bool all] w fun e w' => e = .returned (.string ⟨(stT l all t).toArray⟩) ∧ Below w.heap.size w w' := by
  have hbd := bds_of hbig t hok
  have hlen := st_len l all hbig t hbd.1 hbd.2
  have hlen2 : countT t * 900000000 ≤ 100000 * 900000000 := Nat.mul_le_mul_right _ hcb
  obtain ⟨ka, kn, kc, ca, cn, cc, us, hue, _⟩ := treeAt_open hu
  have HCa := Lib.hid (fun T W h1 h2 => part_any w.heap.size T ao cap all l w hv hbig he rfl (SizeOf.sizeOf t) t (Nat.le_refl _) S u hu hok (by omega) W [] h1 h2 (by simp only [List.length_nil]; omega))
  unfold tellP at HCa
  subst hue
  obtain ⟨X, hX⟩ : ∃ X, X = (w.alloc (partO t.kind t.hd.1 t.hd.2 t.bd.1 t.bd.2 (.slice ka kn kc) (.slice ca cn cc) t.e.1 t.e.2)).alloc (.cells #[.slice ao l.length cap, .bool all, .pointer none, .slice none 0 0] 55) := ⟨_, rfl⟩
  have HP : Hid (X.heap[w.heap.size]? = some (partO t.kind t.hd.1 t.hd.2 t.bd.1 t.bd.2 (.slice ka kn kc) (.slice ca cn cc) t.e.1 t.e.2)) := by unfold Hid; rw [hX]; exact heap_alloc2_old _ _ _
  have HBX : Hid (Below w.heap.size w X) := by rw [hX]; exact ((Below.refl _ _).alloc (Nat.le_refl _) _).alloc (by simp) _
  have HTX : Hid (TlAt w.heap.size (w.heap.size + 1) (.slice ao l.length cap) all (Lib.byteCells []) X) :=
    ⟨Nat.le_succ _, .pointer none, .slice none 0 0, .inl rfl, by rw [hX]; exact heap_alloc2_new _ _ _, World.ownsRow_nil _ _ _ _, by simp [Value.ownBlock]⟩
  have hne : stT l all t ≠ [] := by
    intro e
    by_cases hk : t.kind = 1
    · rw [st_one l all t hk] at e
      simp at e
    · rw [st_other l all t hk] at e
      simp at e
  have HTo := Lib.hid (fun W (h : TlAt w.heap.size (w.heap.size + 1) (.slice ao l.length cap) all (Lib.byteCells (stT l all t)) W) => told_any w.heap.size (w.heap.size + 1) (.slice ao l.length cap) all (stT l all t) W h hne)
  unfold partO at hX
  have HX := Lib.hid hX
  obtain ⟨p0, p1, p2, p3, p4, p5, p6, p7, p8⟩ := part_cells HP.out
  have HPa := Lib.hid (HCa.out (w.heap.size + 1) X HBX.out HTX.out)
  obtain ⟨R, hR⟩ : ∃ R, R = stT l all t := ⟨_, rfl⟩
  rw [← hR] at HTo HPa ⊢
  rw [List.nil_append] at HPa
  clear hX hv he hu hok hcb hbd hlen hlen2 hne HCa hR HTX HP
  go_enter Tryz.func9, Tryz.ntmps9
  go_wp2_with fail
  rw [← HX.out]
  with_reducible refine HPa.out.mono ?_
  rintro e w1 ⟨rfl, ht1, hk1⟩
  have HK1 := Lib.hid (HBX.out.trans hk1.1)
  have HT1 := Lib.hid (HTo.out w1 ht1)
  clear ht1 hk1 HPa HTo p0 p1 p2 p3 p4 p5 p6 p7 p8
  go_wp2_with fail
  with_reducible refine HT1.out.mono ?_
  rintro e w2 ⟨rfl, hb2⟩
  go_wp2_with fail
  go_ret
  exact ⟨rfl, HK1.out.trans hb2⟩
end Go.Proofs.YtkmgflnmffdhjaaGreatDoor
