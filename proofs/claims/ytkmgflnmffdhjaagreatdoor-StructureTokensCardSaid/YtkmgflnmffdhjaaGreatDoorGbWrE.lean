/- Own words of two texts together. -/
import Derived.Test.YtkmgflnmffdhjaaGreatDoorGbParC
import Derived.Test.YtkmgflnmffdhjaaGreatDoorGbAppIn
import Derived.Test.YtkmgflnmffdhjaaGreatDoorGbParH
import Derived.Test.YtkmgflnmffdhjaaGreatDoorGbAdT
import Derived.Deep.RegionHeld
import Derived.Laws.OwnMore
import Derived.OwnWalk
namespace Go.Proofs.YtkmgflnmffdhjaaGreatDoor
end Go.Proofs.YtkmgflnmffdhjaaGreatDoor

/- Layer 18: contracts of package wire: the reader; a piece taken off the front. -/
namespace Go.Proofs.YtkmgflnmffdhjaaGreatDoor
open Go Go.RowKit

/-- A reader of bytes, at a place in them. -/
structure Rb (W : World) (B b off cap : Nat) (l : List UInt8) (k : Nat) : Prop where
  c0 : W.cell? ⟨B, 0, none⟩ = some (.slice (some ⟨b, off, none⟩) l.length cap)
  c1 : W.cell? ⟨B, 1, none⟩ = some (.int .i64 (k : Int))
  f1 : W.frozen? ⟨B, 1, none⟩ = false
  ne : b ≠ B
  le : l.length ≤ cap
  mx : cap ≤ maxLen
  sm : l.length ≤ 1000000000000
  lt : b < W.heap.size
  at_ : ∀ j, (h : j < l.length) → W.cell? ⟨b, off + j, none⟩ = some (byteV l[j])
section
variable {W W' : World} {B b off cap : Nat} {l : List UInt8} {k : Nat}
theorem Rb.ltB (h : Rb W B b off cap l k) : B < W.heap.size := World.block_lt_of_cell? _ _ h.c0
theorem Rb.block (h : Rb W B b off cap l k) (hB : W'.heap[B]? = W.heap[B]?) (hb : W'.heap[b]? = W.heap[b]?) : Rb W' B b off cap l k :=
  ⟨(World.cell?_of_block (a := ⟨B, 0, none⟩) hB).trans h.c0, (World.cell?_of_block (a := ⟨B, 1, none⟩) hB).trans h.c1, (World.frozen?_of_block (a := ⟨B, 1, none⟩) hB).trans h.f1, h.ne, h.le, h.mx, h.sm,
    (Array.getElem?_eq_some_iff.1 (hb.trans (Array.getElem?_eq_getElem h.lt))).1, fun j hj => (World.cell?_of_block (a := ⟨b, off + j, none⟩) hb).trans (h.at_ j hj)⟩
theorem Rb.below (h : Rb W B b off cap l k) (hb : Below W.heap.size W W') : Rb W' B b off cap l k := h.block (hb.block B h.ltB) (hb.block b h.lt)
theorem Rb.set (h : Rb W B b off cap l k) (j : Nat) : Rb (W.setCell ⟨B, 1, none⟩ (.int .i64 (j : Int))) B b off cap l j :=
  ⟨(World.cell?_setCell_other _ ⟨B, 1, none⟩ ⟨B, 0, none⟩ _ (by simp)).trans h.c0, World.cell?_setCell_same _ _ _ h.c1, (World.frozen?_setCell _ _ _ _).trans h.f1, h.ne, h.le, h.mx, h.sm, by simpa using h.lt,
    fun j hj => (World.cell?_of_block (a := ⟨b, off + j, none⟩) (Below.heap_setCell W ⟨B, 1, none⟩ _ b h.ne)).trans (h.at_ j hj)⟩
theorem Rb.src (h : Rb W B b off cap l k) : sliceAt W (some ⟨b, off, none⟩) l := .inr ⟨b, off, rfl, h.lt, h.at_⟩
/-- What a piece that is left of a slice lies at. -/
def fromA (b off cap k : Nat) : Addr := if cap = k then ⟨b, off, none⟩ else ⟨b, off + k, none⟩
end
theorem Gr.slice {B b : Nat} {off : Nat} {a c : World} {l : List UInt8} (h : Gr B a c) (hne : b ≠ B) (hs : sliceAt a (some ⟨b, off, none⟩) l) : sliceAt c (some ⟨b, off, none⟩) l := by
  rcases hs with hs | ⟨b', off', e, hlt, hc⟩
  · exact .inl hs
  · cases e
    have hb := h.block b hlt (fun e => hne (Option.some.inj e))
    exact .inr ⟨b, off, rfl, Nat.lt_of_lt_of_le hlt h.size, fun j hj => (World.cell?_of_block (a := ⟨b, off + j, none⟩) hb).trans (hc j hj)⟩
theorem prefix_any (g : Nat) (ao : Addr) (l p : List UInt8) (n c m d : Nat) (w : World) (hn : l.length = n) (hm : p.length = m) (hc : n ≤ c) (hs : sliceAt w (some ao) l) (hg : sliceAt w (some ⟨g, 0, none⟩) p) :
    Calls Tryz.prog 46 #[.slice (some ao) n c, .slice (some ⟨g, 0, none⟩) m d] w fun e w' => e = .returned (.bool (p.isPrefixOf l)) ∧ w = w' := by
  subst hn hm
  refine (Tryz.bytes_HasPrefix_all (some ao) (some ⟨g, 0, none⟩) l.length c p.length d (intsOf l) (intsOf p) w (intsOf_len l) (intsOf_len p) hc hs.ints hg.ints).mono ?_
  rintro e w' ⟨rfl, rfl⟩
  refine ⟨?_, rfl⟩
  rw [bytesOf_ints, bytesOf_ints]
  rfl
end Go.Proofs.YtkmgflnmffdhjaaGreatDoor

/- Layer 18: contracts of package wire: takes. -/
namespace Go.Proofs.YtkmgflnmffdhjaaGreatDoor
open Go Go.RowKit

set_option maxRecDepth 100000 in
set_option maxHeartbeats 2000000 in
theorem wtakes_at (B b off cap : Nat) (l : List UInt8) (k : Nat) (q : ByteArray) (p : List UInt8) (w : World) (hq : q.data.toList = p) (hp : p.length ≤ 1000) (hr : Rb w B b off cap l k) (hk : k ≤ l.length) (x : Bool) (hx : p.isPrefixOf (l.drop k) = x) (hcap : ¬ cap = k) :
    Calls Tryz.prog 26 #[.pointer (some ⟨B, 0, none⟩), .string q] w fun e w' => e = .returned (.bool x) ∧ Rb w' B b off cap l (if x = true then k + p.length else k) ∧ Gr B w w' := by
  subst hq
  have hle := hr.le
  have hmx := hr.mx
  have hsm := hr.sm
  have hp2 : q.size ≤ 1000 := by simpa using hp
  have hks : (k : Int) ≤ (l.length : Int) := by omega
  have HR := Lib.hid hr
  have HP := Lib.hid (fun g d W (h : Rb W B b off cap l k) hg => (prefix_any g ⟨b, off + k, none⟩ (l.drop k) q.data.toList (l.length - k) (cap - k) q.size d W (by simp) (by simp) (by omega) h.src.drop hg))
  rw [hx] at HP
  have c0 := hr.c0
  have c1 := hr.c1
  clear hr hx hp
  
  go_enter Tryz.func26, Tryz.ntmps26
  go_wp2_with fail
  obtain ⟨W1, cp, hrun, hrow, hbel, _⟩ := conv_bytes (P := Tryz.prog) w.drew 9 22 5 q Tryz.underlying9 Tryz.underlying22 Tryz.underlying5
  have hb1 : Below w.heap.size w W1 := (Below.refl _ _).drew.trans hbel
  have HR1 := Lib.hid (HR.out.below hb1)
  have HB1 := Lib.hid hb1
  have hg : sliceAt W1 (some ⟨w.heap.size, 0, none⟩) q.data.toList := .inr ⟨_, 0, rfl, hrow.lt, fun j hj => by rw [Nat.zero_add]; refine (hrow.cell j (by simpa using hj)).trans ?_; simp⟩
  have HP1 := Lib.hid (HP.out w.heap.size cp W1 HR1.out hg)
  have d0 := HR1.out.c0
  have d1 := HR1.out.c1
  have e1 := HR1.out.f1
  clear hbel hrow hg hb1 HP
  go_region_held (fun W' : World => W'.cell? ⟨B, 0, none⟩ = some (.slice (some ⟨b, off, none⟩) l.length cap) ∧ W'.cell? ⟨B, 1, none⟩ = some (.int .i64 (k : Int))) (first | exact ⟨c0, c1⟩ | exact ⟨d0, d1⟩)
    ((go_at_call 46; with_reducible refine HP1.out.mono ?_; rintro e w1 ⟨rfl, rfl⟩))
  cases x with
  | true =>
    go_wp2_with fail
    go_ret
    refine ⟨rfl, ?_, ((Gr.refl B w).below HB1.out).set 1 _⟩
    have := HR1.out.set (k + q.size)
    simpa using this
  | false =>
    go_wp2_with fail
    go_ret
    exact ⟨rfl, HR1.out, ((Gr.refl B w).below HB1.out)⟩
set_option maxRecDepth 100000 in
set_option maxHeartbeats 2000000 in
theorem wtakes_end (B b off cap : Nat) (l : List UInt8) (k : Nat) (q : ByteArray) (p : List UInt8) (w : World) (hq : q.data.toList = p) (hp : p.length ≤ 1000) (hr : Rb w B b off cap l k) (hk : k ≤ l.length) (x : Bool) (hx : p.isPrefixOf (l.drop k) = x) (hcap : cap = k) :
    Calls Tryz.prog 26 #[.pointer (some ⟨B, 0, none⟩), .string q] w fun e w' => e = .returned (.bool x) ∧ Rb w' B b off cap l (if x = true then k + p.length else k) ∧ Gr B w w' := by
  subst hq
  have hle := hr.le
  have hmx := hr.mx
  have hsm := hr.sm
  have hp2 : q.size ≤ 1000 := by simpa using hp
  have hks : (k : Int) ≤ (l.length : Int) := by omega
  have HR := Lib.hid hr
  have HP := Lib.hid (fun g d W (h : Rb W B b off cap l k) hg => (prefix_any g ⟨b, off, none⟩ (l.drop k) q.data.toList (l.length - k) (cap - k) q.size d W (by simp) (by simp) (by omega) (.inl (List.drop_eq_nil_of_le (by omega))) hg))
  rw [hx] at HP
  have c0 := hr.c0
  have c1 := hr.c1
  clear hr hx hp
  subst hcap
  rw [show cap - cap = 0 by omega, show l.length - cap = 0 by omega] at HP
  go_enter Tryz.func26, Tryz.ntmps26
  go_wp2_with fail
  obtain ⟨W1, cp, hrun, hrow, hbel, _⟩ := conv_bytes (P := Tryz.prog) w.drew 9 22 5 q Tryz.underlying9 Tryz.underlying22 Tryz.underlying5
  have hb1 : Below w.heap.size w W1 := (Below.refl _ _).drew.trans hbel
  have HR1 := Lib.hid (HR.out.below hb1)
  have HB1 := Lib.hid hb1
  have hg : sliceAt W1 (some ⟨w.heap.size, 0, none⟩) q.data.toList := .inr ⟨_, 0, rfl, hrow.lt, fun j hj => by rw [Nat.zero_add]; refine (hrow.cell j (by simpa using hj)).trans ?_; simp⟩
  have HP1 := Lib.hid (HP.out w.heap.size cp W1 HR1.out hg)
  have d0 := HR1.out.c0
  have d1 := HR1.out.c1
  have e1 := HR1.out.f1
  clear hbel hrow hg hb1 HP
  go_region_held (fun W' : World => W'.cell? ⟨B, 0, none⟩ = some (.slice (some ⟨b, off, none⟩) l.length cap) ∧ W'.cell? ⟨B, 1, none⟩ = some (.int .i64 (cap : Int))) (first | exact ⟨c0, c1⟩ | exact ⟨d0, d1⟩)
    ((go_at_call 46; with_reducible refine HP1.out.mono ?_; rintro e w1 ⟨rfl, rfl⟩))
  cases x with
  | true =>
    go_wp2_with fail
    go_ret
    refine ⟨rfl, ?_, ((Gr.refl B w).below HB1.out).set 1 _⟩
    have := HR1.out.set (cap + q.size)
    simpa using this
  | false =>
    go_wp2_with fail
    go_ret
    exact ⟨rfl, HR1.out, ((Gr.refl B w).below HB1.out)⟩
theorem wtakes_any (B b off cap : Nat) (l : List UInt8) (k : Nat) (q : ByteArray) (p : List UInt8) (w : World) (hq : q.data.toList = p) (hp : p.length ≤ 1000) (hr : Rb w B b off cap l k) (hk : k ≤ l.length) (x : Bool) (hx : p.isPrefixOf (l.drop k) = x) :
    Calls Tryz.prog 26 #[.pointer (some ⟨B, 0, none⟩), .string q] w fun e w' => e = .returned (.bool x) ∧ Rb w' B b off cap l (if x = true then k + p.length else k) ∧ Gr B w w' := by
  by_cases hcap : cap = k
  · exact wtakes_end B b off cap l k q p w hq hp hr hk x hx hcap
  · exact wtakes_at B b off cap l k q p w hq hp hr hk x hx hcap
end Go.Proofs.YtkmgflnmffdhjaaGreatDoor

/- Layer 18: contracts of package wire: cut, row. -/
namespace Go.Proofs.YtkmgflnmffdhjaaGreatDoor
open Go Go.RowKit

theorem takeWhile_stopW {α : Type} (p : α → Bool) (a r : List α) (ha : a.all p = true) (hr : ∀ x, r.head? = some x → p x = false) : (a ++ r).takeWhile p = a ∧ (a ++ r).dropWhile p = r := by
  induction a with
  | nil =>
    cases r with
    | nil => exact ⟨rfl, rfl⟩
    | cons x t =>
      have := hr x rfl
      simp [this]
  | cons c a ih =>
    rw [List.all_cons, Bool.and_eq_true] at ha
    have := ih ha.2
    simp [ha.1, this.1, this.2]
/-- A piece of bytes, with nothing spare behind it. -/
def cutV (b off f t : Nat) : Value := .slice (some (fromA b off t f)) (t - f) (t - f)
theorem cutV_src {W : World} {b off f t : Nat} {l : List UInt8} (h : sliceAt W (some ⟨b, off, none⟩) l) (_ : f ≤ t) (_ : t ≤ l.length) : sliceAt W (some (fromA b off t f)) ((l.drop f).take (t - f)) := by
  unfold fromA
  split
  · next e => left; rw [e, Nat.sub_self]; rfl
  · exact h.drop.take _
theorem cutV_arg {W : World} {b off f t : Nat} {l : List UInt8} (h : sliceAt W (some ⟨b, off, none⟩) l) (hf : f ≤ t) (ht : t ≤ l.length) (hm : l.length ≤ maxLen) : bytesArg W (cutV b off f t) ((l.drop f).take (t - f)) := by
  have e : ((l.drop f).take (t - f)).length = t - f := by rw [List.length_take, List.length_drop]; omega
  have := (cutV_src h hf ht).arg (cap := t - f) (by omega) (by omega)
  rw [e] at this
  exact this
set_option maxRecDepth 100000 in
theorem wcut_any (B b off cap : Nat) (l : List UInt8) (k f t : Nat) (w : World) (hr : Rb w B b off cap l k) (hf : f ≤ t) (ht : t ≤ l.length) :
    Calls Tryz.prog 50 #[.pointer (some ⟨B, 0, none⟩), .int .i64 (f : Int), .int .i64 (t : Int)] w fun e w' => e = .returned (cutV b off f t) ∧ Below w.heap.size w w' := by
  have c0 := hr.c0
  have h1 : (f : Int) ≤ (t : Int) := by omega
  have h2 : (t : Int) ≤ (cap : Int) := by have := hr.le; omega
  have hm := hr.mx
  unfold maxLen at hm
  have hle := hr.le
  clear hr
  unfold cutV fromA
  by_cases he : t = f
  · subst he
    rw [if_pos rfl]
    go_enter Tryz.func50, Tryz.ntmps50
    go_wp2
    go_ret
    exact ⟨by simp, Below.refl _ _⟩
  · rw [if_neg he]
    go_enter Tryz.func50, Tryz.ntmps50
    go_wp2
    go_ret
    exact ⟨rfl, Below.refl _ _⟩
/-- What a row of bytes of a kind is, and where the reader stands behind it. -/
def RowW (p : UInt8 → Bool) (B b off cap : Nat) (l : List UInt8) (k : Nat) (w : World) (e : Ending) (w' : World) : Prop :=
  ∃ k' : Nat, e = .returned (cutV b off k k') ∧ Rb w' B b off cap l k' ∧ k ≤ k' ∧ k' ≤ l.length ∧ (l.drop k).take (k' - k) = (l.drop k).takeWhile p ∧ l.drop k' = (l.drop k).dropWhile p ∧ Gr B w w'
theorem drop_consL {l : List UInt8} {k : Nat} (h : k < l.length) : l.drop k = l[k] :: l.drop (k + 1) := by
  rw [List.drop_eq_getElem_cons h]
theorem rowW_of {p : UInt8 → Bool} {l : List UInt8} {k j : Nat} (hk : k ≤ j) (hj : j ≤ l.length) (h1 : ((l.drop k).take (j - k)).all p = true) (h2 : ∀ h : j < l.length, p l[j] = false) :
    (l.drop k).take (j - k) = (l.drop k).takeWhile p ∧ l.drop j = (l.drop k).dropWhile p := by
  have e : (l.drop k).take (j - k) ++ l.drop j = l.drop k := by
    have : l.drop j = (l.drop k).drop (j - k) := by rw [List.drop_drop]; congr 1; omega
    rw [this, List.take_append_drop]
  have h3 := takeWhile_stopW p _ (l.drop j) h1 (fun x hx => by
    by_cases hlt : j < l.length
    · rw [drop_consL hlt] at hx
      cases hx
      exact h2 hlt
    · rw [List.drop_eq_nil_of_le (by omega)] at hx
      cases hx)
  rw [e] at h3
  exact ⟨h3.1.symm, h3.2.symm⟩
theorem all_moreW {p : UInt8 → Bool} {l : List UInt8} {k j : Nat} (hk : k ≤ j) (hj : j < l.length) (h1 : ((l.drop k).take (j - k)).all p = true) (h2 : p l[j] = true) : ((l.drop k).take (j + 1 - k)).all p = true := by
  have e : (l.drop k).take (j + 1 - k) = (l.drop k).take (j - k) ++ [l[j]] := by
    rw [show j + 1 - k = (j - k) + 1 by omega, List.take_succ_eq_append_getElem (by rw [List.length_drop]; omega)]
    congr 2
    rw [List.getElem_drop]
    congr 1
    omega
  rw [e, List.all_append, h1]
  simp [h2]

set_option maxRecDepth 100000 in
set_option maxHeartbeats 2000000 in
theorem wrow_unm (B b off cap : Nat) (l : List UInt8) (k : Nat) (w : World) (hr : Rb w B b off cap l k) (hk : k ≤ l.length) :
    Calls Tryz.prog 47 #[.pointer (some ⟨B, 0, none⟩), .func (.func 48) #[] #[]] w (RowW unmB B b off cap l k w) := by
  unfold RowW
  have HR := Lib.hid hr
  have HK := Lib.hid wunmarked_any
  have c1 := hr.c1
  have hsm := hr.sm
  have HCut := Lib.hid (fun j W (h : Rb W B b off cap l j) hkj hj => wcut_any B b off cap l j k j W h hkj hj)
  clear hr
  go_enter Tryz.func47, Tryz.ntmps47
  go_wp2_with fail
  go_loopg [] (l.length - k) (fun g wr => ∃ j : Nat, g = l.length - j ∧ k ≤ j ∧ j ≤ l.length ∧ Hid (Rb wr B b off cap l j) ∧ Hid (Gr B w wr) ∧ Hid (((l.drop k).take (j - k)).all unmB = true))
  case atStart => exact ⟨k, rfl, by omega, hk, HR.out, Gr.refl _ _, by unfold Hid; simp⟩
  case round =>
    obtain ⟨j, rfl, hkj, hj, HRj, HG, HS⟩ := hrel
    have c0 := HRj.out.c0
    have c1 := HRj.out.c1
    have C0 := BW.cell c0
    have C1 := BW.cell c1
    by_cases hlt : j < l.length
    · have hd : ((j : Int) < (l.length : Int)) := by omega
      have C2 : ∀ z : BW wr, z.v.cell? ⟨b, off + j, none⟩ = some (.int .u8 (l[j].toNat : Int)) := BW.cell (HRj.out.at_ j hlt)
      have HKj := Lib.hid (fun W => HK.out l[j] W)
      rcases Bool.eq_false_or_eq_true (unmB l[j]) with hb | hb
      · rw [hb] at HKj
        go_wp2_with fail
        refine wp_region_below (by kernel_rfl) (by kernel_rfl) ?_
        repeat (go_big_quiet_step (first | (go_at_call 48; exact BW.calls_same (HKj.out _))))
        refine wpQuiet_nil ?_
        rintro W1 ⟨⟨_, hb1⟩, rfl⟩
        have HR1 := Lib.hid (HRj.out.below hb1)
        have HG1 := Lib.hid (HG.out.below hb1)
        replace c1 := HR1.out.c1
        have f1 := HR1.out.f1
        clear hb1 HRj HG c0 C0 C1 C2
        go_wp2_with fail
        go_roundg (l.length - (j + 1))
        case measure => omega
        case rel => exact ⟨j + 1, rfl, by omega, by omega, HR1.out.set (j + 1), HG1.out.set 1 _, all_moreW hkj hlt HS.out hb⟩
      · rw [hb] at HKj
        go_wp2_with fail
        refine wp_region_below (by kernel_rfl) (by kernel_rfl) ?_
        repeat (go_big_quiet_step (first | (go_at_call 48; exact BW.calls_same (HKj.out _))))
        refine wpQuiet_nil ?_
        rintro W1 ⟨⟨_, hb1⟩, rfl⟩
        have HR1 := Lib.hid (HRj.out.below hb1)
        have HG1 := Lib.hid (HG.out.below hb1)
        have D1 := HR1.out.c1
        have HC := Lib.hid (HCut.out j W1 HR1.out hkj hj)
        clear hb1 HRj HG c0 c1 C0 C1 C2
        go_wp2_with fail
        with_reducible refine HC.out.mono ?_
        rintro e W2 ⟨rfl, hb2⟩
        go_wp2_with fail
        go_ret
        obtain ⟨q1, q2⟩ := rowW_of hkj hj HS.out (fun _ => hb)
        exact ⟨j, rfl, HR1.out.below hb2, hkj, hj, q1, q2, HG1.out.below hb2⟩
    · go_wp2_with fail
      refine wp_region_below (by kernel_rfl) (by kernel_rfl) ?_
      repeat (go_big_quiet_step (fail))
      refine wpQuiet_nil ?_
      rintro W1 ⟨⟨_, hb1⟩, rfl⟩
      have HR1 := Lib.hid (HRj.out.below hb1)
      have HG1 := Lib.hid (HG.out.below hb1)
      have D1 := HR1.out.c1
      have HC := Lib.hid (HCut.out j W1 HR1.out hkj hj)
      clear hb1 HRj HG c0 c1 C0 C1
      go_wp2_with fail
      with_reducible refine HC.out.mono ?_
      rintro e W2 ⟨rfl, hb2⟩
      go_wp2_with fail
      go_ret
      obtain ⟨q1, q2⟩ := rowW_of hkj hj HS.out (fun h => (hlt h).elim)
      exact ⟨j, rfl, HR1.out.below hb2, hkj, hj, q1, q2, HG1.out.below hb2⟩

set_option maxRecDepth 100000 in
set_option maxHeartbeats 2000000 in
theorem wrow_dig (B b off cap : Nat) (l : List UInt8) (k : Nat) (w : World) (hr : Rb w B b off cap l k) (hk : k ≤ l.length) :
    Calls Tryz.prog 47 #[.pointer (some ⟨B, 0, none⟩), .func (.func 86) #[] #[]] w (RowW isDig B b off cap l k w) := by
  unfold RowW
  have HR := Lib.hid hr
  have HK := Lib.hid wdigit_any
  have c1 := hr.c1
  have hsm := hr.sm
  have HCut := Lib.hid (fun j W (h : Rb W B b off cap l j) hkj hj => wcut_any B b off cap l j k j W h hkj hj)
  clear hr
  go_enter Tryz.func47, Tryz.ntmps47
  go_wp2_with fail
  go_loopg [] (l.length - k) (fun g wr => ∃ j : Nat, g = l.length - j ∧ k ≤ j ∧ j ≤ l.length ∧ Hid (Rb wr B b off cap l j) ∧ Hid (Gr B w wr) ∧ Hid (((l.drop k).take (j - k)).all isDig = true))
  case atStart => exact ⟨k, rfl, by omega, hk, HR.out, Gr.refl _ _, by unfold Hid; simp⟩
  case round =>
    obtain ⟨j, rfl, hkj, hj, HRj, HG, HS⟩ := hrel
    have c0 := HRj.out.c0
    have c1 := HRj.out.c1
    have C0 := BW.cell c0
    have C1 := BW.cell c1
    by_cases hlt : j < l.length
    · have hd : ((j : Int) < (l.length : Int)) := by omega
      have C2 : ∀ z : BW wr, z.v.cell? ⟨b, off + j, none⟩ = some (.int .u8 (l[j].toNat : Int)) := BW.cell (HRj.out.at_ j hlt)
      have HKj := Lib.hid (fun W => HK.out l[j] W)
      rcases Bool.eq_false_or_eq_true (isDig l[j]) with hb | hb
      · rw [hb] at HKj
        go_wp2_with fail
        refine wp_region_below (by kernel_rfl) (by kernel_rfl) ?_
        repeat (go_big_quiet_step (first | (go_at_call 86; exact BW.calls_same (HKj.out _))))
        refine wpQuiet_nil ?_
        rintro W1 ⟨⟨_, hb1⟩, rfl⟩
        have HR1 := Lib.hid (HRj.out.below hb1)
        have HG1 := Lib.hid (HG.out.below hb1)
        replace c1 := HR1.out.c1
        have f1 := HR1.out.f1
        clear hb1 HRj HG c0 C0 C1 C2
        go_wp2_with fail
        go_roundg (l.length - (j + 1))
        case measure => omega
        case rel => exact ⟨j + 1, rfl, by omega, by omega, HR1.out.set (j + 1), HG1.out.set 1 _, all_moreW hkj hlt HS.out hb⟩
      · rw [hb] at HKj
        go_wp2_with fail
        refine wp_region_below (by kernel_rfl) (by kernel_rfl) ?_
        repeat (go_big_quiet_step (first | (go_at_call 86; exact BW.calls_same (HKj.out _))))
        refine wpQuiet_nil ?_
        rintro W1 ⟨⟨_, hb1⟩, rfl⟩
        have HR1 := Lib.hid (HRj.out.below hb1)
        have HG1 := Lib.hid (HG.out.below hb1)
        have D1 := HR1.out.c1
        have HC := Lib.hid (HCut.out j W1 HR1.out hkj hj)
        clear hb1 HRj HG c0 c1 C0 C1 C2
        go_wp2_with fail
        with_reducible refine HC.out.mono ?_
        rintro e W2 ⟨rfl, hb2⟩
        go_wp2_with fail
        go_ret
        obtain ⟨q1, q2⟩ := rowW_of hkj hj HS.out (fun _ => hb)
        exact ⟨j, rfl, HR1.out.below hb2, hkj, hj, q1, q2, HG1.out.below hb2⟩
    · go_wp2_with fail
      refine wp_region_below (by kernel_rfl) (by kernel_rfl) ?_
      repeat (go_big_quiet_step (fail))
      refine wpQuiet_nil ?_
      rintro W1 ⟨⟨_, hb1⟩, rfl⟩
      have HR1 := Lib.hid (HRj.out.below hb1)
      have HG1 := Lib.hid (HG.out.below hb1)
      have D1 := HR1.out.c1
      have HC := Lib.hid (HCut.out j W1 HR1.out hkj hj)
      clear hb1 HRj HG c0 c1 C0 C1
      go_wp2_with fail
      with_reducible refine HC.out.mono ?_
      rintro e W2 ⟨rfl, hb2⟩
      go_wp2_with fail
      go_ret
      obtain ⟨q1, q2⟩ := rowW_of hkj hj HS.out (fun h => (hlt h).elim)
      exact ⟨j, rfl, HR1.out.below hb2, hkj, hj, q1, q2, HG1.out.below hb2⟩
end Go.Proofs.YtkmgflnmffdhjaaGreatDoor

/- Layer 18: a law of my own, of no function: appends to bytes that are either a whole cut of what came in, with nothing spare behind it, or a row of the call's own. -/
namespace Go.Proofs.YtkmgflnmffdhjaaGreatDoor
open Go Go.RowKit

theorem run_append_fullW {P : Program} (w : World) (base : Nat) (t ty e : TypeId) (i : TypeInfo) (ht : P.underlying t = some (.slice e)) (hi : P.info? e = some i) (hz : i.zero = some (.int .u8 0)) (hsize : i.size = 1) (hby : i.bytes = 1)
    (g off n : Nat) (xs : List Value) (hn : xs.length = n) (hold : ∀ j u, xs[j]? = some u → w.cell? ((⟨g, off, none⟩ : Addr).add j) = some u) (ad : Addr) (m c : Nat) (news : List Value) (hl : news.length = m) (hnews : ∀ j u, news[j]? = some u → w.cell? (ad.add j) = some u)
    (hm : 0 < m) (h63 : n + m ≤ maxLen) (hbytes : (n + m) * 1 ≤ 140737488355328) (hbase : base ≤ w.heap.size) :
    ∃ v w', (Builtin.append_ #[t, t] ty #[.slice (some ⟨g, off, none⟩) n n, .slice (some ad) m c]).run P w = .ok v w' ∧
      w'.ownsRow base e 1 v (n + m) (xs ++ news) ∧ (∀ row, w.grownBy w' row) := by
  subst hn hl
  have hsmall : xs.length + news.length ≤ 9223372036854775807 := by simp only [maxLen] at h63; omega
  have hb2 : (xs.length + news.length) * i.bytes ≤ 140737488355328 := by rw [hby]; exact hbytes
  have hr := run_append_grow (P := P) w t ty e i _ ht hi hz ⟨g, off, none⟩ xs.length xs.length xs (by rw [hsize, Nat.mul_one]) hold ad news.length c news (by rw [hsize, Nat.mul_one]) hnews (by omega) (by omega) (growslice_fits (by omega) hb2)
  have hge := grownCap_ge w (xs.length + news.length) xs.length e
  have hcm : grownCap w (xs.length + news.length) xs.length e ≤ maxLen := grownCap_le_maxLen w _ _ e h63
  refine ⟨_, _, hr, ⟨by rw [List.length_append, Nat.mul_one], .inr ⟨w.heap.size, _, _, rfl, hbase, heap_alloc_new w.drew _, hge, hcm, ?_, ?_⟩⟩, fun row => ⟨rfl, rfl, rfl, by simp, fun k hk _ => heap_alloc_old w.drew _ hk⟩⟩
  · simp only [Array.size_append, List.size_toArray, size_zeroCells]
    show xs.length + news.length + _ * 1 = _
    omega
  · simp only [Array.toList_append, Nat.mul_one]
    rw [show xs.length + news.length = (xs ++ news).length by rw [List.length_append]]
    exact List.take_left
theorem run_append_zeroW {P : Program} {w : World} (t ty e : TypeId) (i : TypeInfo) (ao bo : Option Addr) (n cap c : Nat) (ht : P.underlying t = some (.slice e)) (hi : P.info? e = some i) (hn : n ≤ cap) :
    (Builtin.append_ #[t, t] ty #[.slice ao n cap, .slice bo 0 c]).run P w = .ok (.slice ao n cap) w := by
  have hf : ∀ z, (Builtin.firstCells z 0 (.slice bo 0 c)).run P w = .ok #[] w := by
    intro z
    cases bo with
    | none => simp [Builtin.firstCells]
    | some ad => exact run_firstCells_some (P := P) w z 0 ad 0 c [] (by simp) (by intro j v h; simp at h)
  cases ao with
  | none => simp [Builtin.append_, run_underlying ht, sizeOf, typeInfo, hi, Builtin.lenOf, hn, hf]
  | some a => simp [Builtin.append_, run_underlying ht, sizeOf, typeInfo, hi, Builtin.lenOf, hn, hf, storeCells]
/-- Bytes that are told: a row of the call's own, or a cut with nothing spare behind it. -/
def Told (W : World) (base B : Nat) (v : Value) (t : List UInt8) : Prop :=
  W.ownsRow base 5 1 v t.length (t.map byteV) ∨ ∃ b off, v = .slice (some ⟨b, off, none⟩) t.length t.length ∧ b < W.heap.size ∧ b ≠ B ∧ t.length ≤ maxLen ∧ sliceAt W (some ⟨b, off, none⟩) t
theorem Told.gr {W W' : World} {base B : Nat} {v : Value} {t : List UInt8} (h : Told W base B v t) (hg : Gr B W W') (hB : B < base) : Told W' base B v t := by
  rcases h with h | ⟨b, off, e, h1, h2, h3, h4⟩
  · refine .inl (h.kept hg ?_)
    rcases hv : v.ownBlock with _ | q
    · exact .inl rfl
    · right
      intro e
      cases e
      have := (h.lt _ hv).1
      omega
  · exact .inr ⟨b, off, e, Nat.lt_of_lt_of_le h1 hg.size, h2, h3, hg.slice h2 h4⟩
theorem Told.below {W W' : World} {base B : Nat} {v : Value} {t : List UInt8} (h : Told W base B v t) (hg : Below W.heap.size W W') (hB : B < base) : Told W' base B v t := h.gr ((Gr.refl _ _).below hg) hB
theorem Told.arg {W : World} {base B : Nat} {v : Value} {t : List UInt8} (h : Told W base B v t) : bytesArg W v t := by
  rcases h with h | ⟨b, off, e, h1, h2, h3, h4⟩
  · exact bytesArg_owned h
  · exact ⟨_, _, e, Nat.le_refl _, h3, h4⟩
theorem Gr.low {B : Nat} {a b c : World} (h : Gr B a b) (k : Below a.heap.size b c) : Gr B a c :=
  ⟨k.os.trans h.os, k.tape.trans h.tape, k.output.trans h.output, Nat.le_trans h.size k.size, fun i hi h1 => (k.block i hi).trans (h.block i hi h1)⟩
theorem Rb.low {W W' : World} {B b off cap n : Nat} {l : List UInt8} {k : Nat} (h : Rb W B b off cap l k) (hb : Below n W W') (h1 : B < n) (h2 : b < n) : Rb W' B b off cap l k := h.block (hb.block B h1) (hb.block b h2)
theorem below_grownW {w w' : World} {base : Nat} {row : Option Nat} (h : w.grownBy w' row) (hr : ∀ q, row = some q → base ≤ q) (hb : base ≤ w.heap.size) : Below base w w' :=
  ⟨h.os, h.tape, h.output, h.size, fun k hk => h.block k (by omega) (fun e => by have := hr k e.symm; omega)⟩
theorem wpList_append_told {P : Program} {w : World} {ops : Array Oper} {rest : List Oper} {o : Oper} {a : Act} {Q : Exit → Act → World → Prop} (hgd : o.guard = none) (s x : Operand) (t : TypeId)
    (ho : o.op = .call { callee := .builtin .append, args := #[s, x], argTypes := #[t, t] })
    (base B : Nat) (i : TypeInfo) (ht : P.underlying t = some (.slice 5)) (hi : P.info? 5 = some i) (hz : i.zero = some (.int .u8 0)) (hsize : i.size = 1) (hby : i.bytes = 1)
    (v : Value) (ts : List UInt8) (hs : a.eval s = v) (hown : Told w base B v ts)
    (ao : Option Addr) (m c : Nat) (l : List UInt8) (hm : l.length = m) (hx : a.eval x = .slice ao m c) (hsl : sliceAt w ao l) (h63 : ts.length + m ≤ 4000000000000) (hbase : base ≤ w.heap.size)
    (h : ∀ v' w', Told w' base B v' (ts ++ l) → Below base w w' → wpList P ops Q rest (a.put o.dst v') w') : wpList P ops Q (o :: rest) a w := by
  subst hm
  by_cases h0 : l = []
  · subst h0
    refine wpList_plain hgd fun K hK => ?_
    obtain ⟨ao1, cap1, rfl, hc1, _, _⟩ := hown.arg
    have hrun := run_append_zeroW (P := P) (w := w) t o.type 5 i ao1 ao ts.length cap1 c ht hi hc1
    have hx' : a.eval x = .slice ao 0 c := hx
    unfold Oper.wp
    simp [execOp, ho, resolve, invoke, builtin, hs, hx', hrun, Result.andThen]
    refine hK _ _ (h _ w ?_ (Below.refl _ _))
    simpa using hown
  · obtain ⟨b2, off2, rfl, hlt2, hc2⟩ : ∃ b off, ao = some ⟨b, off, none⟩ ∧ b < w.heap.size ∧ ∀ j, (h : j < l.length) → w.cell? ⟨b, off + j, none⟩ = some (byteV l[j]) := hsl.resolve_left h0
    have hnews := sliceAt.news (.inr ⟨b2, off2, rfl, hlt2, hc2⟩ : sliceAt w (some ⟨b2, off2, none⟩) l)
    have hpos : 0 < l.length := List.length_pos_iff.2 h0
    rcases hown with hown | ⟨b, off, rfl, h1, h2, h3, h4⟩
    · refine wpList_append_own _ hgd s x t ho base 5 i (.int .u8 0) 1 1 ht hi hz hsize hby rfl (by decide) v ts.length (ts.map byteV) hs hown ⟨b2, off2, none⟩ l.length c (l.map byteV) hx (by simp) hnews (news_one l) (by unfold maxLen; omega) (by omega) hbase (fun v' w' g1 g2 _ => h v' w' (.inl ?_) (below_grownW g2 (fun q hq => (hown.lt q hq).1) hbase))
      simpa using g1
    · obtain ⟨v', w', hr, g1, g2⟩ := run_append_fullW (P := P) w base t o.type 5 i ht hi hz hsize hby b off ts.length (ts.map byteV) (by simp) (h4.news) ⟨b2, off2, none⟩ l.length c (l.map byteV) (by simp) hnews hpos (by unfold maxLen; omega) (by omega) hbase
      refine wpList_plain hgd fun K hK => ?_
      unfold Oper.wp
      simp [execOp, ho, resolve, invoke, builtin, hs, hx, hr, Result.andThen]
      refine hK _ _ (h v' w' (.inl ?_) (below_grownW (g2 none) (fun q hq => by cases hq) hbase))
      simpa using g1
end Go.Proofs.YtkmgflnmffdhjaaGreatDoor
