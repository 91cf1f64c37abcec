/- A law of my own, of no function: a region that draws its order, whose callees only make memory: one walk, in the order of the text. -/
import Derived.Test.YteallnjbpikhhaaGreatDoorKit2
import Derived.BigQuiet
import Derived.Test.YteallnjbpikhhaaGreatDoorGbParM
import Derived.Deep.RegionLaw
import Derived.RegionCalls
import Derived.Test.YteallnjbpikhhaaGreatDoorGbParL
import Derived.Lib.BufferOwn
namespace Go.Proofs.YteallnjbpikhhaaGreatDoor
open Go Go.RowKit

/-- A world behind w, in which all that lay in w lies as it lay. -/
structure BW (w : World) where
  v : World
  h : Below w.heap.size w v
instance bwNonempty (w : World) : Nonempty (BW w) := ⟨⟨w, Below.refl _ _⟩⟩
theorem wp_region_below {P : Program} {id : Nat} {Q : Exit → Act → World → Prop} {a : Act} {w : World} {l : List Oper} (hm : P.follows .mixedOrders = true) (hB : Region.lexB .any l.toArray = true)
    (h : wpQuiet P l.toArray (fun w' => ∃ z : BW w, w' = z.v) (fun a' => ∀ w', (∃ z : BW w, w' = z.v) → Q .normal a' w') l a) : (Code.region id l.toArray true).wp P Q a w :=
  wp_region_quiet (C := fun w' => ∃ z : BW w, w' = z.v) hm hB ⟨⟨w.drew, (Below.refl _ _).drew⟩, rfl⟩ (by simpa using h)
theorem BW.calls {P : Program} {f : FuncId} {args : Array Value} {w : World} {z : BW w} {v : Value} (h : Calls P f args z.v fun e w' => e = .returned v ∧ Below z.v.heap.size z.v w') :
    Calls P f args z.v fun e w'' => e = .returned v ∧ ∃ z' : BW w, w'' = z'.v :=
  h.mono fun _ w' ⟨he, hb⟩ => ⟨he, ⟨⟨w', z.h.trans (hb.mono z.h.size)⟩, rfl⟩⟩
theorem BW.calls_same {P : Program} {f : FuncId} {args : Array Value} {w : World} {z : BW w} {v : Value} (h : Calls P f args z.v fun e w' => e = .returned v ∧ z.v = w') :
    Calls P f args z.v fun e w'' => e = .returned v ∧ ∃ z' : BW w, w'' = z'.v :=
  h.mono fun _ _ ⟨he, hb⟩ => ⟨he, ⟨z, hb.symm⟩⟩
theorem BW.cell {w : World} {a : Addr} {u : Value} (h : w.cell? a = some u) (z : BW w) : z.v.cell? a = some u :=
  (z.h.cell (World.block_lt_of_cell? w a h)).trans h
end Go.Proofs.YteallnjbpikhhaaGreatDoor

/- Contracts of package params: what is skipped. -/
namespace Go.Proofs.YteallnjbpikhhaaGreatDoor
open Go Go.RowKit

theorem skL_esc (d : Nat) (l : List UInt8) : skL true d l = skL false d (l.drop 1) := by
  cases l with
  | nil => rw [skL_nil]; exact (skL_nil _ _).symm
  | cons c l => rfl
theorem skL_stroke (d : Nat) (l : List UInt8) : skL false (d + 1) (92 :: l) = skL false (d + 1) (l.drop 1) := by
  rw [← skL_esc]
  rfl
theorem skL_open (d : Nat) (l : List UInt8) : skL false d (40 :: l) = skL false (d + 1) l := by cases d <;> rfl
theorem skL_shut (d : Nat) (l : List UInt8) : skL false (d + 1) (41 :: l) = skL false d l := rfl
theorem skL_other (d : Nat) (c : UInt8) (l : List UInt8) (h1 : c ≠ 92) (h2 : c ≠ 40) (h3 : c ≠ 41) : skL false (d + 1) (c :: l) = skL false (d + 1) l := by
  show (if c = 92 then _ else if c = 40 then _ else if c = 41 then _ else _) = _
  rw [if_neg h1, if_neg h2, if_neg h3]

set_option maxHeartbeats 1000000 in
theorem behindComment_any (s : ByteArray) (k : Nat) (w : World) (hl : s.size ≤ 1000000000) (hk : k < s.size) (h40 : s[k].toNat = 40) :
    Calls Tryz.prog 140 #[.string s, .int .i64 (k : Int)] w fun e w' => ∃ r : Nat, e = .returned (.int .i64 (r : Int)) ∧ k < r ∧ r ≤ s.size ∧ sk (s.data.toList.drop k) = sk (s.data.toList.drop r) ∧ w = w' := by
  have H40 := Lib.hid h40
  clear h40
  go_enter Tryz.func140, Tryz.ntmps140
  go_wp2_with fail
  go_loopg [1, 5] (s.size + 1 - k) (fun g v1 v5 wr => ∃ j d : Nat, g = s.size + 1 - j ∧ k ≤ j ∧ j ≤ s.size + 1 ∧ v1 = .int .i64 (j : Int) ∧ v5 = .int .i64 (d : Int) ∧ d ≤ j ∧ ((j = k ∧ d = 0) ∨ (k < j ∧ 1 ≤ d)) ∧ Hid (sk (s.data.toList.drop k) = skL false d (s.data.toList.drop j)) ∧ w = wr)
  case atStart => exact ⟨k, 0, by omega, by omega, by omega, rfl, rfl, by omega, .inl ⟨rfl, rfl⟩, rfl, rfl⟩
  case round =>
    obtain ⟨j, d, rfl, hkj, hj, rfl, rfl, hdj, hjd, HS, rfl⟩ := hrel
    by_cases hlt : j < s.size
    · have HD := Lib.hid (drop_cons s j hlt)
      rw [HD.out] at HS
      have HC := Lib.hid (fun (a : Nat) (h : s[j].toNat = a) (h2 : a < 256) => toNat_eq (a := s[j]) (b := byteN a) (by rw [h, byteN_toNat a h2]))
      by_cases h92 : s[j].toNat = 92
      · have hd1 : 1 ≤ d ∧ k < j := by
          rcases hjd with ⟨e, _⟩ | ⟨h1, h2⟩
          · subst e; have := H40.out; omega
          · exact ⟨h2, h1⟩
        have b1 : (((s[j].toNat : Nat) : Int) == 92) = true := beq_yes (by omega)
        have b4 : ((d : Int) == 0) = false := beq_no (by omega)
        have HC1 := Lib.hid (HC.out 92 h92 (by omega))
        clear HC
        go_wp2_with fail
        go_roundg (s.size + 1 - (j + 2))
        case measure => omega
        case rel =>
          refine ⟨j + 2, d, rfl, by omega, by omega, by go_num, rfl, by omega, .inr ⟨by omega, hd1.1⟩, ?_, rfl⟩
          unfold Hid
          obtain ⟨d', rfl⟩ : ∃ d', d = d' + 1 := ⟨d - 1, by omega⟩
          rw [HS.out, HC1.out]
          refine (skL_stroke _ _).trans ?_
          rw [List.drop_drop]
      · have b1 : (((s[j].toNat : Nat) : Int) == 92) = false := beq_no (by omega)
        have HN1 : Hid (s[j] ≠ 92) := fun e => h92 (by rw [e]; rfl)
        by_cases h40 : s[j].toNat = 40
        · have b2 : (((s[j].toNat : Nat) : Int) == 40) = true := beq_yes (by omega)
          have b4 : (((d : Int) + 1) == 0) = false := beq_no (by omega)
          have HC1 := Lib.hid (HC.out 40 h40 (by omega))
          clear HC
          go_wp2_with fail
          go_roundg (s.size + 1 - (j + 1))
          case measure => omega
          case rel =>
            refine ⟨j + 1, d + 1, rfl, by omega, by omega, by go_num, by go_num, by omega, .inr ⟨by omega, by omega⟩, ?_, rfl⟩
            unfold Hid
            rw [HS.out, HC1.out]
            exact skL_open _ _
        · have b2 : (((s[j].toNat : Nat) : Int) == 40) = false := beq_no (by omega)
          have HN2 : Hid (s[j] ≠ 40) := fun e => h40 (by rw [e]; rfl)
          have hd1 : 1 ≤ d ∧ k < j := by
            rcases hjd with ⟨e, _⟩ | ⟨h1, h2⟩
            · subst e; exact absurd H40.out h40
            · exact ⟨h2, h1⟩
          by_cases h41 : s[j].toNat = 41
          · have b3 : (((s[j].toNat : Nat) : Int) == 41) = true := beq_yes (by omega)
            have HC1 := Lib.hid (HC.out 41 h41 (by omega))
            clear HC
            by_cases hd : d = 1
            · subst hd
              go_wp2_with fail
              go_ret
              refine ⟨j + 1, by go_num, by omega, by omega, ?_, rfl⟩
              rw [HS.out, HC1.out]
              exact skL_shut 0 _
            · have b4 : (((d : Int) - 1) == 0) = false := beq_no (by omega)
              go_wp2_with fail
              go_roundg (s.size + 1 - (j + 1))
              case measure => omega
              case rel =>
                refine ⟨j + 1, d - 1, rfl, by omega, by omega, by go_num, by go_num, by omega, .inr ⟨by omega, by omega⟩, ?_, rfl⟩
                unfold Hid
                obtain ⟨d', rfl⟩ : ∃ d', d = d' + 1 := ⟨d - 1, by omega⟩
                rw [HS.out, HC1.out]
                exact skL_shut _ _
          · have b3 : (((s[j].toNat : Nat) : Int) == 41) = false := beq_no (by omega)
            have HN3 : Hid (s[j] ≠ 41) := fun e => h41 (by rw [e]; rfl)
            have b4 : ((d : Int) == 0) = false := beq_no (by omega)
            clear HC
            go_wp2_with fail
            go_roundg (s.size + 1 - (j + 1))
            case measure => omega
            case rel =>
              refine ⟨j + 1, d, rfl, by omega, by omega, by go_num, rfl, by omega, .inr ⟨by omega, hd1.1⟩, ?_, rfl⟩
              unfold Hid
              obtain ⟨d', rfl⟩ : ∃ d', d = d' + 1 := ⟨d - 1, by omega⟩
              rw [HS.out]
              exact skL_other _ _ _ HN1.out HN2.out HN3.out
    · have HE : Hid (s.data.toList.drop j = []) := List.drop_eq_nil_of_le (by simp; omega)
      go_wp2_with fail
      go_ret
      refine ⟨s.size, rfl, hk, Nat.le_refl _, ?_, rfl⟩
      rw [HS.out, HE.out, skL_nil, List.drop_eq_nil_of_le (by simp)]
      exact (skL_nil _ _).symm

theorem token_byte (c : UInt8) (w : World) :
    Calls Tryz.prog 141 #[.int .u8 (c.toNat : Int)] w fun e w' => e = .returned (.bool (tokB c)) ∧ Below w.heap.size w w' :=
  token_any _ w (by omega) (by have := c.toNat_lt; omega)
theorem behindToken_any (s : ByteArray) (k : Nat) (w : World) (hl : s.size ≤ 1000000000) (hk : k ≤ s.size) :
    Calls Tryz.prog 118 #[.string s, .int .i64 (k : Int)] w fun e w' => e = .returned (.int .i64 ((k + (tokL (s.data.toList.drop k)).length : Nat) : Int)) ∧ Below w.heap.size w w' := by
  have HT := Lib.hid token_byte
  obtain ⟨N, hN⟩ : ∃ N, N = k + (tokL (s.data.toList.drop k)).length := ⟨_, rfl⟩
  rw [← hN]
  have HN : Hid (N = k + (tokL (s.data.toList.drop k)).length) := hN
  clear hN
  go_enter Tryz.func118, Tryz.ntmps118
  go_wp2_with fail
  go_loopg [1] (s.size - k) (fun g v1 wr => ∃ j : Nat, g = s.size - j ∧ k ≤ j ∧ j ≤ s.size ∧ v1 = .int .i64 (j : Int) ∧ Hid (N = j + (tokL (s.data.toList.drop j)).length) ∧ Hid (Below w.heap.size w wr))
  case atStart => exact ⟨k, by omega, by omega, by omega, rfl, HN.out, Below.refl _ _⟩
  case round =>
    obtain ⟨j, rfl, hkj, hj, rfl, HS, HB⟩ := hrel
    by_cases hlt : j < s.size
    · have HD := Lib.hid (drop_cons s j hlt)
      rw [HD.out] at HS
      have HTj := Lib.hid (HT.out s[j] wr)
      rcases Bool.eq_false_or_eq_true (tokB s[j]) with ht | ht
      · rw [ht] at HTj
        have HL : Hid (tokL (s[j] :: s.data.toList.drop (j + 1)) = s[j] :: tokL (s.data.toList.drop (j + 1))) := by unfold Hid tokL; rw [List.takeWhile_cons, if_pos ht]
        go_wp2_with (go_at_call 141; refine HTj.out.mono ?_; rintro e w1 ⟨rfl, hb1⟩)
        go_roundg (s.size - (j + 1))
        case measure => omega
        case rel =>
          refine ⟨j + 1, rfl, by omega, by omega, by go_num, ?_, HB.out.trans (hb1.mono HB.out.size)⟩
          unfold Hid
          rw [HS.out, HL.out, List.length_cons]
          omega
      · rw [ht] at HTj
        have HL : Hid (tokL (s[j] :: s.data.toList.drop (j + 1)) = []) := by unfold Hid tokL; rw [List.takeWhile_cons, if_neg (by rw [ht]; simp)]
        go_wp2_with (go_at_call 141; refine HTj.out.mono ?_; rintro e w1 ⟨rfl, hb1⟩)
        go_ret
        refine ⟨?_, HB.out.trans (hb1.mono HB.out.size)⟩
        rw [HS.out, HL.out]
        rfl
    · have HE : Hid (s.data.toList.drop j = []) := List.drop_eq_nil_of_le (by simp; omega)
      go_wp2_with fail
      go_ret
      refine ⟨?_, HB.out⟩
      rw [HS.out, HE.out]
      rfl
end Go.Proofs.YteallnjbpikhhaaGreatDoor

/- Contracts of package params: the reader's parts. -/
namespace Go.Proofs.YteallnjbpikhhaaGreatDoor
open Go Go.RowKit

/-- A reader of a text, at a place in it. -/
structure Rd (W : World) (B : Nat) (s : ByteArray) (k : Nat) : Prop where
  c0 : W.cell? ⟨B, 0, none⟩ = some (.string s)
  c1 : W.cell? ⟨B, 1, none⟩ = some (.int .i64 (k : Int))
  f1 : W.frozen? ⟨B, 1, none⟩ = false
theorem Rd.lt {W : World} {B : Nat} {s : ByteArray} {k : Nat} (h : Rd W B s k) : B < W.heap.size := World.block_lt_of_cell? _ _ h.c0
theorem Rd.block {W W' : World} {B : Nat} {s : ByteArray} {k : Nat} (h : Rd W B s k) (hb : W'.heap[B]? = W.heap[B]?) : Rd W' B s k :=
  ⟨(World.cell?_of_block (a := ⟨B, 0, none⟩) hb).trans h.c0, (World.cell?_of_block (a := ⟨B, 1, none⟩) hb).trans h.c1, (World.frozen?_of_block (a := ⟨B, 1, none⟩) hb).trans h.f1⟩
theorem Rd.below {W W' : World} {B : Nat} {s : ByteArray} {k : Nat} (h : Rd W B s k) (hb : Below W.heap.size W W') : Rd W' B s k := h.block (hb.block B h.lt)
theorem Rd.set {W : World} {B : Nat} {s : ByteArray} {k : Nat} (h : Rd W B s k) (j : Nat) : Rd (W.setCell ⟨B, 1, none⟩ (.int .i64 (j : Int))) B s j :=
  ⟨(World.cell?_setCell_other _ ⟨B, 1, none⟩ ⟨B, 0, none⟩ _ (by simp)).trans h.c0, World.cell?_setCell_same _ _ _ h.c1, (World.frozen?_setCell _ _ _ _).trans h.f1⟩
/-- All that lay lies as it lay, but for one block. -/
def Gr (B : Nat) (W W' : World) : Prop := W.grownBy W' (some B)
theorem Gr.refl (B : Nat) (W : World) : Gr B W W := ⟨rfl, rfl, rfl, Nat.le_refl _, fun _ _ _ => rfl⟩
theorem Gr.trans {B : Nat} {a b c : World} (h : Gr B a b) (k : Gr B b c) : Gr B a c := World.grownBy.trans h k
theorem Gr.below {B : Nat} {a b c : World} (h : Gr B a b) (k : Below b.heap.size b c) : Gr B a c := h.trans ⟨k.os, k.tape, k.output, k.size, fun i hi _ => k.block i hi⟩
theorem Gr.drewN {B : Nat} {a b : World} (h : Gr B a b) (n : Nat) : Gr B a (b.drewN n) := h.below (below_drewN' n)
theorem Gr.set {B : Nat} {a b : World} (h : Gr B a b) (j : Nat) (u : Value) : Gr B a (b.setCell ⟨B, j, none⟩ u) := h.trans (grownBy_setCell b ⟨B, j, none⟩ u)
theorem Gr.size {B : Nat} {a b : World} (h : Gr B a b) : a.heap.size ≤ b.heap.size := World.grownBy.size h

theorem sk_blank {c : UInt8} (l : List UInt8) (h : blk c = true) : sk (c :: l) = sk l := by
  show (if blk c = true then _ else _) = _
  rw [if_pos h]
  rfl
theorem sk_stay {c : UInt8} (l : List UInt8) (h : blk c = false) (h2 : c ≠ 40) : sk (c :: l) = c :: l := by
  show (if blk c = true then _ else if c = 40 then _ else _) = _
  rw [if_neg (by rw [h]; simp), if_neg h2]
theorem blank_byte (c : UInt8) (w : World) :
    Calls Tryz.prog 63 #[.int .u8 (c.toNat : Int)] w fun e w' => e = .returned (.bool (blk c)) ∧ w = w' :=
  blank_any _ w

set_option maxRecDepth 100000 in
set_option maxHeartbeats 2000000 in
theorem skip_any (B : Nat) (s : ByteArray) (k : Nat) (w : World) (hr : Rd w B s k) (hl : s.size ≤ 1000000000) (hk : k ≤ s.size) :
    Calls Tryz.prog 117 #[.pointer (some ⟨B, 0, none⟩)] w fun e w' => e = .returned (.tuple #[]) ∧ ∃ k', Rd w' B s k' ∧ k ≤ k' ∧ k' ≤ s.size ∧ s.data.toList.drop k' = sk (s.data.toList.drop k) ∧ Gr B w w' := by
  have HR := Lib.hid hr
  have HBl := Lib.hid blank_byte
  have HC := Lib.hid (fun j W h h40 => behindComment_any s j W hl h h40)
  clear hr
  go_enter Tryz.func117, Tryz.ntmps117
  go_wp2_with fail
  go_step3
  go_wp2_with fail
  go_step3
  go_wp2_with fail
  go_loopg [2] (s.size - k) (fun g _ wr => ∃ j : Nat, g = s.size - j ∧ k ≤ j ∧ j ≤ s.size ∧ Hid (Rd wr B s j) ∧ Hid (Gr B w wr) ∧ Hid (sk (s.data.toList.drop k) = sk (s.data.toList.drop j)))
  case atStart => exact ⟨k, by omega, by omega, by omega, HR.out, Gr.refl _ _, rfl⟩
  case round =>
    obtain ⟨j, rfl, hkj, hj, HRj, HG, HS⟩ := hrel
    have c0 := HRj.out.c0
    have c1 := HRj.out.c1
    have f1 := HRj.out.f1
    have C0 := BW.cell c0
    have C1 := BW.cell c1
    by_cases hlt : j < s.size
    · have hd : ((j : Int) < (s.size : Int)) := by omega
      have HD := Lib.hid (drop_cons s j hlt)
      rw [HD.out] at HS
      have HCj := Lib.hid (fun W => HC.out j W hlt)
      have HBj := Lib.hid (HBl.out s[j])
      go_wp2_with fail
      refine wp_region_below (by kernel_rfl) (by kernel_rfl) ?_
      repeat (go_big_quiet_step (fail))
      refine wpQuiet_nil ?_
      rintro W1 ⟨⟨_, hb1⟩, rfl⟩
      have HR1 := Lib.hid (HRj.out.below hb1)
      have HG1 := Lib.hid (HG.out.below hb1)
      replace C0 := BW.cell HR1.out.c0
      replace C1 := BW.cell HR1.out.c1
      clear hb1 HRj HG f1 c0 c1
      go_wp2_with fail
      refine wp_region_below (by kernel_rfl) (by kernel_rfl) ?_
      repeat (go_big_quiet_step (fail))
      refine wpQuiet_nil ?_
      rintro W2 ⟨⟨_, hb2⟩, rfl⟩
      have HR2 := Lib.hid (HR1.out.below hb2)
      have HG2 := Lib.hid (HG1.out.below hb2)
      have c0 := HR2.out.c0
      have c1 := HR2.out.c1
      have f1 := HR2.out.f1
      clear hb2 HR1 HG1 C0 C1
      rcases Bool.eq_false_or_eq_true (blk s[j]) with hb | hb
      · have HSk := Lib.hid (sk_blank (s.data.toList.drop (j + 1)) hb)
        have HB2 := Lib.hid (fun W => HBj.out W)
        rw [hb] at HB2
        go_wp2_with (go_at_call 63; refine (HB2.out _).mono ?_; rintro e w1 ⟨rfl, rfl⟩)
        go_roundg (s.size - (j + 1))
        case measure => omega
        case rel => exact ⟨j + 1, rfl, by omega, by omega, HR2.out.set (j + 1), HG2.out.set 1 _, by unfold Hid; rw [HS.out, HSk.out]⟩
      · have HB2 := Lib.hid (fun W => HBj.out W)
        rw [hb] at HB2
        by_cases h40 : s[j].toNat = 40
        · have b2 : (((s[j].toNat : Nat) : Int) == 40) = true := beq_yes (by omega)
          have HC40 := Lib.hid (fun W => HC.out j W hlt h40)
          clear h40 HCj
          go_wp2_with (go_at_call 63; refine (HB2.out _).mono ?_; rintro e w1 ⟨rfl, rfl⟩)
          go_region_with (go_at_call 140; refine (HC40.out _).mono ?_; rintro e w1 ⟨r, rfl, hr1, hr2, hr3, rfl⟩)
          all_goals
            go_wp2_with fail
            go_roundg (s.size - r)
            case measure => omega
            case rel => exact ⟨r, rfl, by omega, hr2, (HR2.out.set r).below (Below.refl _ _).drew, (HG2.out.set 1 _).below (Below.refl _ _).drew, by unfold Hid; rw [HS.out, ← HD.out, hr3]⟩
        · have b2 : (((s[j].toNat : Nat) : Int) == 40) = false := beq_no (by omega)
          have HSk := Lib.hid (sk_stay (s.data.toList.drop (j + 1)) hb (fun e => h40 (by rw [e]; rfl)))
          go_wp2_with (go_at_call 63; refine (HB2.out _).mono ?_; rintro e w1 ⟨rfl, rfl⟩)
          simp only [Exit.noGoto_normal]
          go_end0
          exact ⟨rfl, j, HR2.out, hkj, hj, by rw [HD.out, HS.out, HSk.out], HG2.out⟩
    · have HE : Hid (s.data.toList.drop j = []) := List.drop_eq_nil_of_le (by simp; omega)
      go_wp2_with fail
      refine wp_region_below (by kernel_rfl) (by kernel_rfl) ?_
      repeat (go_big_quiet_step (fail))
      refine wpQuiet_nil ?_
      rintro W1 ⟨⟨_, hb1⟩, rfl⟩
      have HR1 := Lib.hid (HRj.out.below hb1)
      have HG1 := Lib.hid (HG.out.below hb1)
      go_wp2_with fail
      simp only [Exit.noGoto_normal]
      go_end0
      exact ⟨rfl, j, HR1.out, hkj, hj, by rw [HS.out, HE.out]; rfl, HG1.out⟩
end Go.Proofs.YteallnjbpikhhaaGreatDoor

/- Contracts of package params: the reader's tokens. -/
namespace Go.Proofs.YteallnjbpikhhaaGreatDoor
open Go Go.RowKit

def seesB (c : UInt8) (l : List UInt8) : Bool := l.head? == some c
set_option maxRecDepth 100000 in
set_option maxHeartbeats 1000000 in
theorem sees_any (B : Nat) (s : ByteArray) (k : Nat) (c : UInt8) (w : World) (hr : Rd w B s k) :
    Calls Tryz.prog 119 #[.pointer (some ⟨B, 0, none⟩), .int .u8 (c.toNat : Int)] w fun e w' => e = .returned (.bool (seesB c (s.data.toList.drop k))) ∧ Below w.heap.size w w' := by
  have C0 := BW.cell hr.c0
  have C1 := BW.cell hr.c1
  have hlB := hr.lt
  by_cases hlt : k < s.size
  · have hd : ((k : Int) < (s.size : Int)) := by omega
    have HD := Lib.hid (drop_cons s k hlt)
    have HE : Hid (seesB c (s.data.toList.drop k) = (((s[k].toNat : Nat) : Int) == ((c.toNat : Nat) : Int))) := by
      unfold Hid seesB
      rw [HD.out]
      by_cases e : s[k] = c
      · rw [e]; simp
      · have : s[k].toNat ≠ c.toNat := fun h => e (toNat_eq h)
        rw [beq_no (by omega)]
        simpa using e
    go_enter Tryz.func119, Tryz.ntmps119
    go_wp2_with fail
    refine wp_region_below (by kernel_rfl) (by kernel_rfl) ?_
    repeat (go_big_quiet_step (fail))
    refine wpQuiet_nil ?_
    rintro W1 ⟨⟨_, hb1⟩, rfl⟩
    go_wp2_with fail
    go_ret
    exact ⟨ret_bool HE.out.symm, hb1⟩
  · have HE : Hid (s.data.toList.drop k = []) := List.drop_eq_nil_of_le (by simp; omega)
    go_enter Tryz.func119, Tryz.ntmps119
    go_wp2_with fail
    refine wp_region_below (by kernel_rfl) (by kernel_rfl) ?_
    repeat (go_big_quiet_step (fail))
    refine wpQuiet_nil ?_
    rintro W1 ⟨⟨_, hb1⟩, rfl⟩
    go_wp2_with fail
    go_ret
    exact ⟨by rw [HE.out]; rfl, hb1⟩

set_option maxRecDepth 100000 in
set_option maxHeartbeats 1000000 in
theorem takes_any (B : Nat) (s : ByteArray) (k : Nat) (c : UInt8) (w : World) (hr : Rd w B s k) (hl : s.size ≤ 1000000000) (hk : k ≤ s.size) :
    Calls Tryz.prog 95 #[.pointer (some ⟨B, 0, none⟩), .int .u8 (c.toNat : Int)] w fun e w' => e = .returned (.bool (takeL c (s.data.toList.drop k)).isSome) ∧
      ∃ k', Rd w' B s k' ∧ k' ≤ s.size ∧ (∀ r, takeL c (s.data.toList.drop k) = some r → s.data.toList.drop k' = r) ∧ Gr B w w' := by
  have HS := Lib.hid (skip_any B s k w hr hl hk)
  have HSe := Lib.hid (fun j W h => sees_any B s j c W h)
  clear hr
  go_enter Tryz.func95, Tryz.ntmps95
  go_wp2_with fail
  with_reducible refine HS.out.mono ?_
  rintro e w1 ⟨rfl, j, hR1, hj1, hj2, hD, hG1⟩
  have HR1 := Lib.hid hR1
  have HG1 := Lib.hid hG1
  have HSj := Lib.hid (HSe.out j w1 hR1)
  have HDj : Hid (sk (s.data.toList.drop k) = s.data.toList.drop j) := hD.symm
  clear hR1 hG1 hD HS HSe
  rcases Bool.eq_false_or_eq_true (seesB c (s.data.toList.drop j)) with hs | hs
  · rw [hs] at HSj
    have hlt : j < s.size := by
      rcases Nat.lt_or_ge j s.size with h | h
      · exact h
      · rw [List.drop_eq_nil_of_le (by simp; omega)] at hs
        cases hs
    have HT : Hid (takeL c (s.data.toList.drop k) = some (s.data.toList.drop (j + 1))) := by
      unfold Hid takeL
      rw [HDj.out, drop_cons s j hlt]
      rw [drop_cons s j hlt] at hs
      have e : s[j] = c := by simpa [seesB] using hs
      simp only
      rw [if_pos e]
    go_wp2_with fail
    with_reducible refine HSj.out.mono ?_
    rintro e w2 ⟨rfl, hb2⟩
    have HR2 := Lib.hid (HR1.out.below hb2)
    have HG2 := Lib.hid (HG1.out.below hb2)
    have c1 := HR2.out.c1
    have f1 := HR2.out.f1
    clear hb2 HR1 HG1
    go_wp2_with fail
    go_ret
    refine ⟨by rw [HT.out]; rfl, j + 1, HR2.out.set (j + 1), by omega, fun r h => ?_, HG2.out.set 1 _⟩
    rw [HT.out] at h
    exact Option.some.inj h
  · rw [hs] at HSj
    have HT : Hid (takeL c (s.data.toList.drop k) = none) := by
      unfold Hid takeL
      rw [HDj.out]
      unfold seesB at hs
      split
      · next x r e =>
        rw [e] at hs
        rw [if_neg (by simpa using hs)]
      · rfl
    go_wp2_with fail
    with_reducible refine HSj.out.mono ?_
    rintro e w2 ⟨rfl, hb2⟩
    go_wp2_with fail
    go_ret
    refine ⟨by rw [HT.out]; rfl, j, HR1.out.below hb2, hj2, fun r h => ?_, HG1.out.below hb2⟩
    rw [HT.out] at h
    cases h

theorem tokL_prefix (l : List UInt8) : l.take (tokL l).length = tokL l := by
  have h : tokL l ++ l.dropWhile tokB = l := List.takeWhile_append_dropWhile
  have h2 := List.take_left (l₁ := tokL l) (l₂ := l.dropWhile tokB)
  rw [h] at h2
  exact h2
theorem tokL_len (l : List UInt8) : (tokL l).length ≤ l.length := (List.takeWhile_sublist _).length_le
def tokV (l : List UInt8) : Value := .tuple #[.string ⟨l.toArray⟩, .bool (!l.isEmpty)]
set_option maxRecDepth 100000 in
set_option maxHeartbeats 1000000 in
theorem rdToken_any (B : Nat) (s : ByteArray) (k : Nat) (w : World) (hr : Rd w B s k) (hl : s.size ≤ 1000000000) (hk : k ≤ s.size) :
    Calls Tryz.prog 94 #[.pointer (some ⟨B, 0, none⟩)] w fun e w' => e = .returned (tokV (tokenL (s.data.toList.drop k)).1) ∧
      ∃ k', Rd w' B s k' ∧ k' ≤ s.size ∧ s.data.toList.drop k' = (tokenL (s.data.toList.drop k)).2 ∧ Gr B w w' := by
  have HS := Lib.hid (skip_any B s k w hr hl hk)
  have HTk := Lib.hid (fun j W h => behindToken_any s j W hl h)
  clear hr
  go_enter Tryz.func94, Tryz.ntmps94
  go_wp2_with fail
  with_reducible refine HS.out.mono ?_
  rintro e w1 ⟨rfl, j, hR1, hj1, hj2, hD, hG1⟩
  have HR1 := Lib.hid hR1
  have HG1 := Lib.hid hG1
  have HDj : Hid (sk (s.data.toList.drop k) = s.data.toList.drop j) := hD.symm
  obtain ⟨n, hn⟩ : ∃ n, n = j + (tokL (s.data.toList.drop j)).length := ⟨_, rfl⟩
  have HTj := Lib.hid (HTk.out j w1 hj2)
  rw [← hn] at HTj
  have HN : Hid (n = j + (tokL (s.data.toList.drop j)).length) := hn
  have hjn : j ≤ n := by omega
  have hns : n ≤ s.size := by
    have := tokL_len (s.data.toList.drop j)
    rw [List.length_drop, len_toList] at this
    omega
  have c0 := HR1.out.c0
  have c1 := HR1.out.c1
  clear hR1 hG1 hD HS HTk hn
  go_wp2_with fail
  with_reducible refine HTj.out.mono ?_
  rintro e w2 ⟨rfl, hb2⟩
  have HR2 := Lib.hid (HR1.out.below hb2)
  have HG2 := Lib.hid (HG1.out.below hb2)
  have f1 := HR2.out.f1
  replace c1 := HR2.out.c1
  clear hb2 HR1 HG1 c0
  have HR3 := Lib.hid (HR2.out.set n)
  have HG3 := Lib.hid (HG2.out.set 1 (.int .i64 (n : Int)))
  obtain ⟨W3, hW3⟩ : ∃ W3, W3 = w2.setCell ⟨B, 1, none⟩ (.int .i64 (n : Int)) := ⟨_, rfl⟩
  rw [← hW3] at HR3 HG3
  have HW3 : Hid (w2.setCell ⟨B, 1, none⟩ (.int .i64 (n : Int)) = W3) := hW3.symm
  clear hW3
  go_wp2_with fail
  rw [HW3.out]
  have C0 := BW.cell HR3.out.c0
  have C1 := BW.cell HR3.out.c1
  have hjn' : (j : Int) ≤ (n : Int) := by omega
  have hns' : (n : Int) ≤ (s.size : Int) := by omega
  refine wp_region_below (by kernel_rfl) (by kernel_rfl) ?_
  repeat (go_big_quiet_step (fail))
  refine wpQuiet_nil ?_
  rintro W4 ⟨⟨_, hb4⟩, rfl⟩
  go_wp2_with fail
  go_ret2
  have HR4 := HR3.out.below hb4
  have HG4 := HG3.out.below hb4
  have e1 : (tokenL (s.data.toList.drop k)).1 = tokL (s.data.toList.drop j) := by
    show tokL (sk _) = _
    rw [HDj.out]
  have e2 : (tokenL (s.data.toList.drop k)).2 = s.data.toList.drop n := by
    show (sk _).drop (tokL (sk _)).length = _
    rw [HDj.out, List.drop_drop, HN.out]
  refine ⟨?_, n, HR4, hns, e2.symm, HG4⟩
  rw [e1]
  have e3 : s.extract j n = ⟨(tokL (s.data.toList.drop j)).toArray⟩ := bytes_eq (by
    rw [extract_toList, show n - j = (tokL (s.data.toList.drop j)).length by have := HN.out; omega, tokL_prefix])
  have e4 : decide (j < n) = !(tokL (s.data.toList.drop j)).isEmpty := by
    have := HN.out
    cases hT : tokL (s.data.toList.drop j) with
    | nil => rw [hT] at this; simp at this; simp [this]
    | cons x r => rw [hT] at this; simp at this; simp; omega
  show Ending.returned (.tuple #[.string (s.extract j n), .bool (decide (j < n))]) = _
  rw [e3, e4]
  rfl

set_option maxRecDepth 100000 in
theorem rdName_any (B : Nat) (s : ByteArray) (k : Nat) (w : World) (hr : Rd w B s k) (hl : s.size ≤ 1000000000) (hk : k ≤ s.size) :
    Calls Tryz.prog 70 #[.pointer (some ⟨B, 0, none⟩)] w fun e w' => e = .returned (tokV (foldS (tokenL (s.data.toList.drop k)).1)) ∧
      ∃ k', Rd w' B s k' ∧ k' ≤ s.size ∧ s.data.toList.drop k' = (tokenL (s.data.toList.drop k)).2 ∧ Gr B w w' := by
  have HS := Lib.hid (rdToken_any B s k w hr hl hk)
  obtain ⟨T, hT⟩ : ∃ T, T = (tokenL (s.data.toList.drop k)).1 := ⟨_, rfl⟩
  have hTl : (⟨T.toArray⟩ : ByteArray).size ≤ 9223372036854775807 := by
    show T.length ≤ _
    have h1 := tokL_len (sk (s.data.toList.drop k))
    have h2 := skL_le (s.data.toList.drop k) false 0
    have h3 : T.length = (tokL (sk (s.data.toList.drop k))).length := by rw [hT]; rfl
    unfold sk at h1 h3
    rw [List.length_drop, len_toList] at h2
    omega
  have HF := Lib.hid (fun W => fold_any ⟨T.toArray⟩ W hTl)
  rw [← hT] at HS ⊢
  have HE : Hid (T.isEmpty = (foldS T).isEmpty) := by unfold Hid foldS; cases T <;> rfl
  clear hr hT
  go_enter Tryz.func70, Tryz.ntmps70
  go_wp2_with fail
  with_reducible refine HS.out.mono ?_
  rintro e w1 ⟨rfl, j, hR1, hj, hD, hG⟩
  have HR1 := Lib.hid hR1
  have HG1 := Lib.hid hG
  have HD1 := Lib.hid hD
  clear hR1 hG hD
  unfold tokV
  go_wp2_with (go_at_call 24; refine (HF.out _).mono ?_; rintro e w2 ⟨rfl, hb2⟩)
  go_ret2
  have e5 : Ending.returned (tokV (foldS T)) = .returned (.tuple #[.string ⟨(foldS T).toArray⟩, .bool (!T.isEmpty)]) := by
    unfold tokV
    rw [HE.out]
  exact ⟨Eq.trans rfl e5.symm, j, HR1.out.below hb2, hj, HD1.out, HG1.out.below hb2⟩
end Go.Proofs.YteallnjbpikhhaaGreatDoor
