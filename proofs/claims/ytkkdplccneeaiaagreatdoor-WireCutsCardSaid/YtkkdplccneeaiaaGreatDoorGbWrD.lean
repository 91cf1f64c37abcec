/- Layer 18: contracts of package wire: takes. -/
import Derived.Test.YtkkdplccneeaiaaGreatDoorGbWrB
import Derived.Test.YtkkdplccneeaiaaGreatDoorGbParC
import Derived.Deep.RegionHeld
namespace Go.Proofs.YtkkdplccneeaiaaGreatDoor
open Go Go.RowKit

set_option maxRecDepth 100000 in
set_option maxHeartbeats 2000000 in
theorem wtakes_at (B b off cap : Nat) (l : List UInt8) (k : Nat) (q : ByteArray) (p : List UInt8) (w : World) (hq : q.data.toList = p) (hp : p.length ≤ 1000) (hr : Rb w B b off cap l k) (hk : k ≤ l.length) (x : Bool) (hx : p.isPrefixOf (l.drop k) = x) (hcap : ¬ cap = k) :
    Calls Tryz.prog 36 #[.pointer (some ⟨B, 0, none⟩), .string q] w fun e w' => e = .returned (.bool x) ∧ Rb w' B b off cap l (if x = true then k + p.length else k) ∧ Gr B w w' := by
  subst hq
  have hle := hr.le
  have hmx := hr.mx
  have hsm := hr.sm
  have hp2 : q.size ≤ 1000 := by simpa using hp
  have hks : (k : Int) ≤ (l.length : Int) := by omega
  have HR := Lib.hid hr
  have HP := Lib.hid (fun g d W (h : Rb W B b off cap l k) hg => (prefix_any g ⟨b, off + k, none⟩ (l.drop k) q.data.toList (l.length - k) (cap - k) q.size d W (by simp) (by simp) (by omega) h.src.drop hg))
  rw [hx] at HP
  have c0 := hr.c0
  have c1 := hr.c1
  clear hr hx hp
  
  go_enter Tryz.func36, Tryz.ntmps36
  go_wp2_with fail
  obtain ⟨W1, cp, hrun, hrow, hbel, _⟩ := conv_bytes (P := Tryz.prog) w.drew 9 29 5 q Tryz.underlying9 Tryz.underlying29 Tryz.underlying5
  have hb1 : Below w.heap.size w W1 := (Below.refl _ _).drew.trans hbel
  have HR1 := Lib.hid (HR.out.below hb1)
  have HB1 := Lib.hid hb1
  have hg : sliceAt W1 (some ⟨w.heap.size, 0, none⟩) q.data.toList := .inr ⟨_, 0, rfl, hrow.lt, fun j hj => by rw [Nat.zero_add]; refine (hrow.cell j (by simpa using hj)).trans ?_; simp⟩
  have HP1 := Lib.hid (HP.out w.heap.size cp W1 HR1.out hg)
  have d0 := HR1.out.c0
  have d1 := HR1.out.c1
  have e1 := HR1.out.f1
  clear hbel hrow hg hb1 HP
  go_region_held (fun W' : World => W'.cell? ⟨B, 0, none⟩ = some (.slice (some ⟨b, off, none⟩) l.length cap) ∧ W'.cell? ⟨B, 1, none⟩ = some (.int .i64 (k : Int))) (first | exact ⟨c0, c1⟩ | exact ⟨d0, d1⟩)
    ((go_at_call 51; with_reducible refine HP1.out.mono ?_; rintro e w1 ⟨rfl, rfl⟩))
  cases x with
  | true =>
    go_wp2_with fail
    go_ret
    refine ⟨rfl, ?_, ((Gr.refl B w).below HB1.out).set 1 _⟩
    have := HR1.out.set (k + q.size)
    simpa using this
  | false =>
    go_wp2_with fail
    go_ret
    exact ⟨rfl, HR1.out, ((Gr.refl B w).below HB1.out)⟩
set_option maxRecDepth 100000 in
set_option maxHeartbeats 2000000 in
theorem wtakes_end (B b off cap : Nat) (l : List UInt8) (k : Nat) (q : ByteArray) (p : List UInt8) (w : World) (hq : q.data.toList = p) (hp : p.length ≤ 1000) (hr : Rb w B b off cap l k) (hk : k ≤ l.length) (x : Bool) (hx : p.isPrefixOf (l.drop k) = x) (hcap : cap = k) :
    Calls Tryz.prog 36 #[.pointer (some ⟨B, 0, none⟩), .string q] w fun e w' => e = .returned (.bool x) ∧ Rb w' B b off cap l (if x = true then k + p.length else k) ∧ Gr B w w' := by
  subst hq
  have hle := hr.le
  have hmx := hr.mx
  have hsm := hr.sm
  have hp2 : q.size ≤ 1000 := by simpa using hp
  have hks : (k : Int) ≤ (l.length : Int) := by omega
  have HR := Lib.hid hr
  have HP := Lib.hid (fun g d W (h : Rb W B b off cap l k) hg => (prefix_any g ⟨b, off, none⟩ (l.drop k) q.data.toList (l.length - k) (cap - k) q.size d W (by simp) (by simp) (by omega) (.inl (List.drop_eq_nil_of_le (by omega))) hg))
  rw [hx] at HP
  have c0 := hr.c0
  have c1 := hr.c1
  clear hr hx hp
  subst hcap
  rw [show cap - cap = 0 by omega, show l.length - cap = 0 by omega] at HP
  go_enter Tryz.func36, Tryz.ntmps36
  go_wp2_with fail
  obtain ⟨W1, cp, hrun, hrow, hbel, _⟩ := conv_bytes (P := Tryz.prog) w.drew 9 29 5 q Tryz.underlying9 Tryz.underlying29 Tryz.underlying5
  have hb1 : Below w.heap.size w W1 := (Below.refl _ _).drew.trans hbel
  have HR1 := Lib.hid (HR.out.below hb1)
  have HB1 := Lib.hid hb1
  have hg : sliceAt W1 (some ⟨w.heap.size, 0, none⟩) q.data.toList := .inr ⟨_, 0, rfl, hrow.lt, fun j hj => by rw [Nat.zero_add]; refine (hrow.cell j (by simpa using hj)).trans ?_; simp⟩
  have HP1 := Lib.hid (HP.out w.heap.size cp W1 HR1.out hg)
  have d0 := HR1.out.c0
  have d1 := HR1.out.c1
  have e1 := HR1.out.f1
  clear hbel hrow hg hb1 HP
  go_region_held (fun W' : World => W'.cell? ⟨B, 0, none⟩ = some (.slice (some ⟨b, off, none⟩) l.length cap) ∧ W'.cell? ⟨B, 1, none⟩ = some (.int .i64 (cap : Int))) (first | exact ⟨c0, c1⟩ | exact ⟨d0, d1⟩)
    ((go_at_call 51; with_reducible refine HP1.out.mono ?_; rintro e w1 ⟨rfl, rfl⟩))
  cases x with
  | true =>
    go_wp2_with fail
    go_ret
    refine ⟨rfl, ?_, ((Gr.refl B w).below HB1.out).set 1 _⟩
    have := HR1.out.set (cap + q.size)
    simpa using this
  | false =>
    go_wp2_with fail
    go_ret
    exact ⟨rfl, HR1.out, ((Gr.refl B w).below HB1.out)⟩
theorem wtakes_any (B b off cap : Nat) (l : List UInt8) (k : Nat) (q : ByteArray) (p : List UInt8) (w : World) (hq : q.data.toList = p) (hp : p.length ≤ 1000) (hr : Rb w B b off cap l k) (hk : k ≤ l.length) (x : Bool) (hx : p.isPrefixOf (l.drop k) = x) :
    Calls Tryz.prog 36 #[.pointer (some ⟨B, 0, none⟩), .string q] w fun e w' => e = .returned (.bool x) ∧ Rb w' B b off cap l (if x = true then k + p.length else k) ∧ Gr B w w' := by
  by_cases hcap : cap = k
  · exact wtakes_end B b off cap l k q p w hq hp hr hk x hx hcap
  · exact wtakes_at B b off cap l k q p w hq hp hr hk x hx hcap
end Go.Proofs.YtkkdplccneeaiaaGreatDoor

/- Layer 18: contracts of package wire: cut, row. -/
namespace Go.Proofs.YtkkdplccneeaiaaGreatDoor
open Go Go.RowKit

theorem takeWhile_stopW {α : Type} (p : α → Bool) (a r : List α) (ha : a.all p = true) (hr : ∀ x, r.head? = some x → p x = false) : (a ++ r).takeWhile p = a ∧ (a ++ r).dropWhile p = r := by
  induction a with
  | nil =>
    cases r with
    | nil => exact ⟨rfl, rfl⟩
    | cons x t =>
      have := hr x rfl
      simp [this]
  | cons c a ih =>
    rw [List.all_cons, Bool.and_eq_true] at ha
    have := ih ha.2
    simp [ha.1, this.1, this.2]
/-- A piece of bytes, with nothing spare behind it. -/
def cutV (b off f t : Nat) : Value := .slice (some (fromA b off t f)) (t - f) (t - f)
theorem cutV_src {W : World} {b off f t : Nat} {l : List UInt8} (h : sliceAt W (some ⟨b, off, none⟩) l) (_ : f ≤ t) (_ : t ≤ l.length) : sliceAt W (some (fromA b off t f)) ((l.drop f).take (t - f)) := by
  unfold fromA
  split
  · next e => left; rw [e, Nat.sub_self]; rfl
  · exact h.drop.take _
theorem cutV_arg {W : World} {b off f t : Nat} {l : List UInt8} (h : sliceAt W (some ⟨b, off, none⟩) l) (hf : f ≤ t) (ht : t ≤ l.length) (hm : l.length ≤ maxLen) : bytesArg W (cutV b off f t) ((l.drop f).take (t - f)) := by
  have e : ((l.drop f).take (t - f)).length = t - f := by rw [List.length_take, List.length_drop]; omega
  have := (cutV_src h hf ht).arg (cap := t - f) (by omega) (by omega)
  rw [e] at this
  exact this
set_option maxRecDepth 100000 in
theorem wcut_any (B b off cap : Nat) (l : List UInt8) (k f t : Nat) (w : World) (hr : Rb w B b off cap l k) (hf : f ≤ t) (ht : t ≤ l.length) :
    Calls Tryz.prog 55 #[.pointer (some ⟨B, 0, none⟩), .int .i64 (f : Int), .int .i64 (t : Int)] w fun e w' => e = .returned (cutV b off f t) ∧ Below w.heap.size w w' := by
  have c0 := hr.c0
  have h1 : (f : Int) ≤ (t : Int) := by omega
  have h2 : (t : Int) ≤ (cap : Int) := by have := hr.le; omega
  have hm := hr.mx
  unfold maxLen at hm
  have hle := hr.le
  clear hr
  unfold cutV fromA
  by_cases he : t = f
  · subst he
    rw [if_pos rfl]
    go_enter Tryz.func55, Tryz.ntmps55
    go_wp2
    go_ret
    exact ⟨by simp, Below.refl _ _⟩
  · rw [if_neg he]
    go_enter Tryz.func55, Tryz.ntmps55
    go_wp2
    go_ret
    exact ⟨rfl, Below.refl _ _⟩
/-- What a row of bytes of a kind is, and where the reader stands behind it. -/
def RowW (p : UInt8 → Bool) (B b off cap : Nat) (l : List UInt8) (k : Nat) (w : World) (e : Ending) (w' : World) : Prop :=
  ∃ k' : Nat, e = .returned (cutV b off k k') ∧ Rb w' B b off cap l k' ∧ k ≤ k' ∧ k' ≤ l.length ∧ (l.drop k).take (k' - k) = (l.drop k).takeWhile p ∧ l.drop k' = (l.drop k).dropWhile p ∧ Gr B w w'
theorem drop_consL {l : List UInt8} {k : Nat} (h : k < l.length) : l.drop k = l[k] :: l.drop (k + 1) := by
  rw [List.drop_eq_getElem_cons h]
theorem rowW_of {p : UInt8 → Bool} {l : List UInt8} {k j : Nat} (hk : k ≤ j) (hj : j ≤ l.length) (h1 : ((l.drop k).take (j - k)).all p = true) (h2 : ∀ h : j < l.length, p l[j] = false) :
    (l.drop k).take (j - k) = (l.drop k).takeWhile p ∧ l.drop j = (l.drop k).dropWhile p := by
  have e : (l.drop k).take (j - k) ++ l.drop j = l.drop k := by
    have : l.drop j = (l.drop k).drop (j - k) := by rw [List.drop_drop]; congr 1; omega
    rw [this, List.take_append_drop]
  have h3 := takeWhile_stopW p _ (l.drop j) h1 (fun x hx => by
    by_cases hlt : j < l.length
    · rw [drop_consL hlt] at hx
      cases hx
      exact h2 hlt
    · rw [List.drop_eq_nil_of_le (by omega)] at hx
      cases hx)
  rw [e] at h3
  exact ⟨h3.1.symm, h3.2.symm⟩
theorem all_moreW {p : UInt8 → Bool} {l : List UInt8} {k j : Nat} (hk : k ≤ j) (hj : j < l.length) (h1 : ((l.drop k).take (j - k)).all p = true) (h2 : p l[j] = true) : ((l.drop k).take (j + 1 - k)).all p = true := by
  have e : (l.drop k).take (j + 1 - k) = (l.drop k).take (j - k) ++ [l[j]] := by
    rw [show j + 1 - k = (j - k) + 1 by omega, List.take_succ_eq_append_getElem (by rw [List.length_drop]; omega)]
    congr 2
    rw [List.getElem_drop]
    congr 1
    omega
  rw [e, List.all_append, h1]
  simp [h2]

set_option maxRecDepth 100000 in
set_option maxHeartbeats 2000000 in
theorem wrow_unm (B b off cap : Nat) (l : List UInt8) (k : Nat) (w : World) (hr : Rb w B b off cap l k) (hk : k ≤ l.length) :
    Calls Tryz.prog 52 #[.pointer (some ⟨B, 0, none⟩), .func (.func 53) #[] #[]] w (RowW unmB B b off cap l k w) := by
  unfold RowW
  have HR := Lib.hid hr
  have HK := Lib.hid wunmarked_any
  have c1 := hr.c1
  have hsm := hr.sm
  have HCut := Lib.hid (fun j W (h : Rb W B b off cap l j) hkj hj => wcut_any B b off cap l j k j W h hkj hj)
  clear hr
  go_enter Tryz.func52, Tryz.ntmps52
  go_wp2_with fail
  go_loopg [] (l.length - k) (fun g wr => ∃ j : Nat, g = l.length - j ∧ k ≤ j ∧ j ≤ l.length ∧ Hid (Rb wr B b off cap l j) ∧ Hid (Gr B w wr) ∧ Hid (((l.drop k).take (j - k)).all unmB = true))
  case atStart => exact ⟨k, rfl, by omega, hk, HR.out, Gr.refl _ _, by unfold Hid; simp⟩
  case round =>
    obtain ⟨j, rfl, hkj, hj, HRj, HG, HS⟩ := hrel
    have c0 := HRj.out.c0
    have c1 := HRj.out.c1
    have C0 := BW.cell c0
    have C1 := BW.cell c1
    by_cases hlt : j < l.length
    · have hd : ((j : Int) < (l.length : Int)) := by omega
      have C2 : ∀ z : BW wr, z.v.cell? ⟨b, off + j, none⟩ = some (.int .u8 (l[j].toNat : Int)) := BW.cell (HRj.out.at_ j hlt)
      have HKj := Lib.hid (fun W => HK.out l[j] W)
      rcases Bool.eq_false_or_eq_true (unmB l[j]) with hb | hb
      · rw [hb] at HKj
        go_wp2_with fail
        refine wp_region_below (by kernel_rfl) (by kernel_rfl) ?_
        repeat (go_big_quiet_step (first | (go_at_call 53; exact BW.calls_same (HKj.out _))))
        refine wpQuiet_nil ?_
        rintro W1 ⟨⟨_, hb1⟩, rfl⟩
        have HR1 := Lib.hid (HRj.out.below hb1)
        have HG1 := Lib.hid (HG.out.below hb1)
        replace c1 := HR1.out.c1
        have f1 := HR1.out.f1
        clear hb1 HRj HG c0 C0 C1 C2
        go_wp2_with fail
        go_roundg (l.length - (j + 1))
        case measure => omega
        case rel => exact ⟨j + 1, rfl, by omega, by omega, HR1.out.set (j + 1), HG1.out.set 1 _, all_moreW hkj hlt HS.out hb⟩
      · rw [hb] at HKj
        go_wp2_with fail
        refine wp_region_below (by kernel_rfl) (by kernel_rfl) ?_
        repeat (go_big_quiet_step (first | (go_at_call 53; exact BW.calls_same (HKj.out _))))
        refine wpQuiet_nil ?_
        rintro W1 ⟨⟨_, hb1⟩, rfl⟩
        have HR1 := Lib.hid (HRj.out.below hb1)
        have HG1 := Lib.hid (HG.out.below hb1)
        have D1 := HR1.out.c1
        have HC := Lib.hid (HCut.out j W1 HR1.out hkj hj)
        clear hb1 HRj HG c0 c1 C0 C1 C2
        go_wp2_with fail
        with_reducible refine HC.out.mono ?_
        rintro e W2 ⟨rfl, hb2⟩
        go_wp2_with fail
        go_ret
        obtain ⟨q1, q2⟩ := rowW_of hkj hj HS.out (fun _ => hb)
        exact ⟨j, rfl, HR1.out.below hb2, hkj, hj, q1, q2, HG1.out.below hb2⟩
    · go_wp2_with fail
      refine wp_region_below (by kernel_rfl) (by kernel_rfl) ?_
      repeat (go_big_quiet_step (fail))
      refine wpQuiet_nil ?_
      rintro W1 ⟨⟨_, hb1⟩, rfl⟩
      have HR1 := Lib.hid (HRj.out.below hb1)
      have HG1 := Lib.hid (HG.out.below hb1)
      have D1 := HR1.out.c1
      have HC := Lib.hid (HCut.out j W1 HR1.out hkj hj)
      clear hb1 HRj HG c0 c1 C0 C1
      go_wp2_with fail
      with_reducible refine HC.out.mono ?_
      rintro e W2 ⟨rfl, hb2⟩
      go_wp2_with fail
      go_ret
      obtain ⟨q1, q2⟩ := rowW_of hkj hj HS.out (fun h => (hlt h).elim)
      exact ⟨j, rfl, HR1.out.below hb2, hkj, hj, q1, q2, HG1.out.below hb2⟩

set_option maxRecDepth 100000 in
set_option maxHeartbeats 2000000 in
theorem wrow_dig (B b off cap : Nat) (l : List UInt8) (k : Nat) (w : World) (hr : Rb w B b off cap l k) (hk : k ≤ l.length) :
    Calls Tryz.prog 52 #[.pointer (some ⟨B, 0, none⟩), .func (.func 68) #[] #[]] w (RowW isDig B b off cap l k w) := by
  unfold RowW
  have HR := Lib.hid hr
  have HK := Lib.hid wdigit_any
  have c1 := hr.c1
  have hsm := hr.sm
  have HCut := Lib.hid (fun j W (h : Rb W B b off cap l j) hkj hj => wcut_any B b off cap l j k j W h hkj hj)
  clear hr
  go_enter Tryz.func52, Tryz.ntmps52
  go_wp2_with fail
  go_loopg [] (l.length - k) (fun g wr => ∃ j : Nat, g = l.length - j ∧ k ≤ j ∧ j ≤ l.length ∧ Hid (Rb wr B b off cap l j) ∧ Hid (Gr B w wr) ∧ Hid (((l.drop k).take (j - k)).all isDig = true))
  case atStart => exact ⟨k, rfl, by omega, hk, HR.out, Gr.refl _ _, by unfold Hid; simp⟩
  case round =>
    obtain ⟨j, rfl, hkj, hj, HRj, HG, HS⟩ := hrel
    have c0 := HRj.out.c0
    have c1 := HRj.out.c1
    have C0 := BW.cell c0
    have C1 := BW.cell c1
    by_cases hlt : j < l.length
    · have hd : ((j : Int) < (l.length : Int)) := by omega
      have C2 : ∀ z : BW wr, z.v.cell? ⟨b, off + j, none⟩ = some (.int .u8 (l[j].toNat : Int)) := BW.cell (HRj.out.at_ j hlt)
      have HKj := Lib.hid (fun W => HK.out l[j] W)
      rcases Bool.eq_false_or_eq_true (isDig l[j]) with hb | hb
      · rw [hb] at HKj
        go_wp2_with fail
        refine wp_region_below (by kernel_rfl) (by kernel_rfl) ?_
        repeat (go_big_quiet_step (first | (go_at_call 68; exact BW.calls_same (HKj.out _))))
        refine wpQuiet_nil ?_
        rintro W1 ⟨⟨_, hb1⟩, rfl⟩
        have HR1 := Lib.hid (HRj.out.below hb1)
        have HG1 := Lib.hid (HG.out.below hb1)
        replace c1 := HR1.out.c1
        have f1 := HR1.out.f1
        clear hb1 HRj HG c0 C0 C1 C2
        go_wp2_with fail
        go_roundg (l.length - (j + 1))
        case measure => omega
        case rel => exact ⟨j + 1, rfl, by omega, by omega, HR1.out.set (j + 1), HG1.out.set 1 _, all_moreW hkj hlt HS.out hb⟩
      · rw [hb] at HKj
        go_wp2_with fail
        refine wp_region_below (by kernel_rfl) (by kernel_rfl) ?_
        repeat (go_big_quiet_step (first | (go_at_call 68; exact BW.calls_same (HKj.out _))))
        refine wpQuiet_nil ?_
        rintro W1 ⟨⟨_, hb1⟩, rfl⟩
        have HR1 := Lib.hid (HRj.out.below hb1)
        have HG1 := Lib.hid (HG.out.below hb1)
        have D1 := HR1.out.c1
        have HC := Lib.hid (HCut.out j W1 HR1.out hkj hj)
        clear hb1 HRj HG c0 c1 C0 C1 C2
        go_wp2_with fail
        with_reducible refine HC.out.mono ?_
        rintro e W2 ⟨rfl, hb2⟩
        go_wp2_with fail
        go_ret
        obtain ⟨q1, q2⟩ := rowW_of hkj hj HS.out (fun _ => hb)
        exact ⟨j, rfl, HR1.out.below hb2, hkj, hj, q1, q2, HG1.out.below hb2⟩
    · go_wp2_with fail
      refine wp_region_below (by kernel_rfl) (by kernel_rfl) ?_
      repeat (go_big_quiet_step (fail))
      refine wpQuiet_nil ?_
      rintro W1 ⟨⟨_, hb1⟩, rfl⟩
      have HR1 := Lib.hid (HRj.out.below hb1)
      have HG1 := Lib.hid (HG.out.below hb1)
      have D1 := HR1.out.c1
      have HC := Lib.hid (HCut.out j W1 HR1.out hkj hj)
      clear hb1 HRj HG c0 c1 C0 C1
      go_wp2_with fail
      with_reducible refine HC.out.mono ?_
      rintro e W2 ⟨rfl, hb2⟩
      go_wp2_with fail
      go_ret
      obtain ⟨q1, q2⟩ := rowW_of hkj hj HS.out (fun h => (hlt h).elim)
      exact ⟨j, rfl, HR1.out.below hb2, hkj, hj, q1, q2, HG1.out.below hb2⟩
end Go.Proofs.YtkkdplccneeaiaaGreatDoor
