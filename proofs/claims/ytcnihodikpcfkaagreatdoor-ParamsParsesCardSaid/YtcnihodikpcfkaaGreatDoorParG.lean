/- Contracts of package params: the reader's parts. -/
import Derived.Test.YtcnihodikpcfkaaGreatDoorParF
import Derived.Test.YtcnihodikpcfkaaGreatDoorParC
import Derived.Lib.BufferOwn
namespace Go.Proofs.YtcnihodikpcfkaaGreatDoor
open Go Go.RowKit

/-- A reader of a text, at a place in it. -/
structure Rd (W : World) (B : Nat) (s : ByteArray) (k : Nat) : Prop where
  c0 : W.cell? ⟨B, 0, none⟩ = some (.string s)
  c1 : W.cell? ⟨B, 1, none⟩ = some (.int .i64 (k : Int))
  f1 : W.frozen? ⟨B, 1, none⟩ = false
theorem Rd.lt {W : World} {B : Nat} {s : ByteArray} {k : Nat} (h : Rd W B s k) : B < W.heap.size := World.block_lt_of_cell? _ _ h.c0
theorem Rd.block {W W' : World} {B : Nat} {s : ByteArray} {k : Nat} (h : Rd W B s k) (hb : W'.heap[B]? = W.heap[B]?) : Rd W' B s k :=
  ⟨(World.cell?_of_block (a := ⟨B, 0, none⟩) hb).trans h.c0, (World.cell?_of_block (a := ⟨B, 1, none⟩) hb).trans h.c1, (World.frozen?_of_block (a := ⟨B, 1, none⟩) hb).trans h.f1⟩
theorem Rd.below {W W' : World} {B : Nat} {s : ByteArray} {k : Nat} (h : Rd W B s k) (hb : Below W.heap.size W W') : Rd W' B s k := h.block (hb.block B h.lt)
theorem Rd.set {W : World} {B : Nat} {s : ByteArray} {k : Nat} (h : Rd W B s k) (j : Nat) : Rd (W.setCell ⟨B, 1, none⟩ (.int .i64 (j : Int))) B s j :=
  ⟨(World.cell?_setCell_other _ ⟨B, 1, none⟩ ⟨B, 0, none⟩ _ (by simp)).trans h.c0, World.cell?_setCell_same _ _ _ h.c1, (World.frozen?_setCell _ _ _ _).trans h.f1⟩
/-- All that lay lies as it lay, but for one block. -/
def Gr (B : Nat) (W W' : World) : Prop := W.grownBy W' (some B)
theorem Gr.refl (B : Nat) (W : World) : Gr B W W := ⟨rfl, rfl, rfl, Nat.le_refl _, fun _ _ _ => rfl⟩
theorem Gr.trans {B : Nat} {a b c : World} (h : Gr B a b) (k : Gr B b c) : Gr B a c := World.grownBy.trans h k
theorem Gr.below {B : Nat} {a b c : World} (h : Gr B a b) (k : Below b.heap.size b c) : Gr B a c := h.trans ⟨k.os, k.tape, k.output, k.size, fun i hi _ => k.block i hi⟩
theorem Gr.drewN {B : Nat} {a b : World} (h : Gr B a b) (n : Nat) : Gr B a (b.drewN n) := h.below (below_drewN' n)
theorem Gr.set {B : Nat} {a b : World} (h : Gr B a b) (j : Nat) (u : Value) : Gr B a (b.setCell ⟨B, j, none⟩ u) := h.trans (grownBy_setCell b ⟨B, j, none⟩ u)
theorem Gr.size {B : Nat} {a b : World} (h : Gr B a b) : a.heap.size ≤ b.heap.size := World.grownBy.size h

theorem sk_blank {c : UInt8} (l : List UInt8) (h : blk c = true) : sk (c :: l) = sk l := by
  show (if blk c = true then _ else _) = _
  rw [if_pos h]
  rfl
theorem sk_stay {c : UInt8} (l : List UInt8) (h : blk c = false) (h2 : c ≠ 40) : sk (c :: l) = c :: l := by
  show (if blk c = true then _ else if c = 40 then _ else _) = _
  rw [if_neg (by rw [h]; simp), if_neg h2]
theorem blank_byte (c : UInt8) (w : World) :
    Calls Tryz.prog 63 #[.int .u8 (c.toNat : Int)] w fun e w' => e = .returned (.bool (blk c)) ∧ w = w' :=
  blank_any _ w

set_option maxRecDepth 100000 in
set_option maxHeartbeats 2000000 in
theorem skip_any (B : Nat) (s : ByteArray) (k : Nat) (w : World) (hr : Rd w B s k) (hl : s.size ≤ 1000000000) (hk : k ≤ s.size) :
    Calls Tryz.prog 46 #[.pointer (some ⟨B, 0, none⟩)] w fun e w' => e = .returned (.tuple #[]) ∧ ∃ k', Rd w' B s k' ∧ k ≤ k' ∧ k' ≤ s.size ∧ s.data.toList.drop k' = sk (s.data.toList.drop k) ∧ Gr B w w' := by
  have HR := Lib.hid hr
  have HBl := Lib.hid blank_byte
  have HC := Lib.hid (fun j W h h40 => behindComment_any s j W hl h h40)
  clear hr
  go_enter Tryz.func46, Tryz.ntmps46
  go_wp2_with fail
  go_step3
  go_wp2_with fail
  go_step3
  go_wp2_with fail
  go_loopg [2] (s.size - k) (fun g _ wr => ∃ j : Nat, g = s.size - j ∧ k ≤ j ∧ j ≤ s.size ∧ Hid (Rd wr B s j) ∧ Hid (Gr B w wr) ∧ Hid (sk (s.data.toList.drop k) = sk (s.data.toList.drop j)))
  case atStart => exact ⟨k, by omega, by omega, by omega, HR.out, Gr.refl _ _, rfl⟩
  case round =>
    obtain ⟨j, rfl, hkj, hj, HRj, HG, HS⟩ := hrel
    have c0 := HRj.out.c0
    have c1 := HRj.out.c1
    have f1 := HRj.out.f1
    have C0 := BW.cell c0
    have C1 := BW.cell c1
    by_cases hlt : j < s.size
    · have hd : ((j : Int) < (s.size : Int)) := by omega
      have HD := Lib.hid (drop_cons s j hlt)
      rw [HD.out] at HS
      have HCj := Lib.hid (fun W => HC.out j W hlt)
      have HBj := Lib.hid (HBl.out s[j])
      go_wp2_with fail
      refine wp_region_below (by kernel_rfl) (by kernel_rfl) ?_
      repeat (go_big_quiet_step (fail))
      refine wpQuiet_nil ?_
      rintro W1 ⟨⟨_, hb1⟩, rfl⟩
      have HR1 := Lib.hid (HRj.out.below hb1)
      have HG1 := Lib.hid (HG.out.below hb1)
      replace C0 := BW.cell HR1.out.c0
      replace C1 := BW.cell HR1.out.c1
      clear hb1 HRj HG f1 c0 c1
      go_wp2_with fail
      refine wp_region_below (by kernel_rfl) (by kernel_rfl) ?_
      repeat (go_big_quiet_step (fail))
      refine wpQuiet_nil ?_
      rintro W2 ⟨⟨_, hb2⟩, rfl⟩
      have HR2 := Lib.hid (HR1.out.below hb2)
      have HG2 := Lib.hid (HG1.out.below hb2)
      have c0 := HR2.out.c0
      have c1 := HR2.out.c1
      have f1 := HR2.out.f1
      clear hb2 HR1 HG1 C0 C1
      rcases Bool.eq_false_or_eq_true (blk s[j]) with hb | hb
      · have HSk := Lib.hid (sk_blank (s.data.toList.drop (j + 1)) hb)
        have HB2 := Lib.hid (fun W => HBj.out W)
        rw [hb] at HB2
        go_wp2_with (go_at_call 63; refine (HB2.out _).mono ?_; rintro e w1 ⟨rfl, rfl⟩)
        go_roundg (s.size - (j + 1))
        case measure => omega
        case rel => exact ⟨j + 1, rfl, by omega, by omega, HR2.out.set (j + 1), HG2.out.set 1 _, by unfold Hid; rw [HS.out, HSk.out]⟩
      · have HB2 := Lib.hid (fun W => HBj.out W)
        rw [hb] at HB2
        by_cases h40 : s[j].toNat = 40
        · have b2 : (((s[j].toNat : Nat) : Int) == 40) = true := beq_yes (by omega)
          have HC40 := Lib.hid (fun W => HC.out j W hlt h40)
          clear h40 HCj
          go_wp2_with (go_at_call 63; refine (HB2.out _).mono ?_; rintro e w1 ⟨rfl, rfl⟩)
          go_region_with (go_at_call 64; refine (HC40.out _).mono ?_; rintro e w1 ⟨r, rfl, hr1, hr2, hr3, rfl⟩)
          all_goals
            go_wp2_with fail
            go_roundg (s.size - r)
            case measure => omega
            case rel => exact ⟨r, rfl, by omega, hr2, (HR2.out.set r).below (Below.refl _ _).drew, (HG2.out.set 1 _).below (Below.refl _ _).drew, by unfold Hid; rw [HS.out, ← HD.out, hr3]⟩
        · have b2 : (((s[j].toNat : Nat) : Int) == 40) = false := beq_no (by omega)
          have HSk := Lib.hid (sk_stay (s.data.toList.drop (j + 1)) hb (fun e => h40 (by rw [e]; rfl)))
          go_wp2_with (go_at_call 63; refine (HB2.out _).mono ?_; rintro e w1 ⟨rfl, rfl⟩)
          simp only [Exit.noGoto_normal]
          go_end0
          exact ⟨rfl, j, HR2.out, hkj, hj, by rw [HD.out, HS.out, HSk.out], HG2.out⟩
    · have HE : Hid (s.data.toList.drop j = []) := List.drop_eq_nil_of_le (by simp; omega)
      go_wp2_with fail
      refine wp_region_below (by kernel_rfl) (by kernel_rfl) ?_
      repeat (go_big_quiet_step (fail))
      refine wpQuiet_nil ?_
      rintro W1 ⟨⟨_, hb1⟩, rfl⟩
      have HR1 := Lib.hid (HRj.out.below hb1)
      have HG1 := Lib.hid (HG.out.below hb1)
      go_wp2_with fail
      simp only [Exit.noGoto_normal]
      go_end0
      exact ⟨rfl, j, HR1.out, hkj, hj, by rw [HS.out, HE.out]; rfl, HG1.out⟩
end Go.Proofs.YtcnihodikpcfkaaGreatDoor
