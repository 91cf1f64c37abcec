/- Contracts of package charset: Text, Bytes. -/
import Derived.Test.YtolkjaebhhbilaaDoorCsU
namespace Go.Proofs.YtolkjaebhhbilaaDoor
open Go Go.RowKit

theorem row_cells {W : World} {g : Nat} {a b : Value} {t : TypeId} (h : W.heap[g]? = some (.cells #[a, b] t (0, 0))) : W.cell? ⟨g, 0, none⟩ = some a ∧ W.cell? ⟨g, 1, none⟩ = some b := by
  simp [World.cell?, h]
def bytE (o : Option (List UInt8)) (v : Value) (w' : World) : Prop := match o with
  | some t => ∃ u, v = .tuple #[u, .int .i64 0] ∧ bytesArg w' u t
  | none => v = .tuple #[.slice none 0 0, .int .i64 21]
theorem textK0 (l : List UInt8) : textK 0 l = none := rfl
theorem bytesK0 (l : List UInt8) : bytesK 0 l = none := rfl
set_option maxRecDepth 100000 in
set_option maxHeartbeats 2000000 in
theorem text_0 (nm : ByteArray) (v : Value) (l : List UInt8) (w : World) (hn : nm.size ≤ 1000000) (hk : kindL nm.data.toList = 0) (_hv : bytesArg w v l) (_hl : l.length ≤ 100000) (_hT : Tryd.tabs w) :
    Calls Tryd.prog 33 #[.string nm, v] w fun e w' => e = .returned (errV (textK 0 l)) ∧ Below w.heap.size w w' := by
  have HN : Hid (∀ W, Calls Tryd.prog 42 #[.string nm] W fun e w' => e = .returned (.tuple #[.agg #[.nilFunc, .nilFunc], .bool false]) ∧ Below W.heap.size W w') := fun W => by have h := named_any nm W hn; rw [hk] at h; exact h
  rw [textK0]
  go_enter Tryd.func33, Tryd.ntmps33
  go_wp2_with fail
  with_reducible refine (HN.out _).mono ?_
  rintro e w1 ⟨rfl, hb1⟩
  have HB1 := Lib.hid hb1
  clear hb1
  go_wp2_with (refine wpList_store_row' rfl 75 (.tmp 6) (.tmp 12) rfl w1.heap.size #[.nilFunc, .nilFunc] rfl rfl 75 _ (heap_alloc_new w1 _) (by kernel_rfl) rfl (by kernel_rfl) ?_; intro W3 hW3; have HB3 : Hid (Below w.heap.size w W3) := (by unfold Hid; rw [hW3.out]; exact below_setRow (HB1.out.alloc HB1.out.size _) HB1.out.size _))
  go_ret2
  exact ⟨rfl, HB3.out⟩
set_option maxRecDepth 100000 in
set_option maxHeartbeats 2000000 in
theorem text_1 (nm : ByteArray) (v : Value) (l : List UInt8) (w : World) (hn : nm.size ≤ 1000000) (hk : kindL nm.data.toList = 1) (hv : bytesArg w v l) (hl : l.length ≤ 100000) (_hT : Tryd.tabs w) :
    Calls Tryd.prog 33 #[.string nm, v] w fun e w' => e = .returned (errV (textK 1 l)) ∧ Below w.heap.size w w' := by
  have HN : Hid (∀ W, Calls Tryd.prog 42 #[.string nm] W fun e w' => e = .returned (.tuple #[.agg #[.func (.func 56) #[] #[], .func (.func 57) #[] #[]], .bool true]) ∧ Below W.heap.size W w') := fun W => by have h := named_any nm W hn; rw [hk] at h; exact h
  have HV := Lib.hid hv
  have HR : Hid (∀ W, Below w.heap.size w W → Calls Tryd.prog 56 #[v] W fun e w' => e = .returned (textV (textK 1 l)) ∧ Below W.heap.size W w') := fun W hb => raw_ascii v l W (HV.out.below hb) hl
  obtain ⟨O, hO⟩ : ∃ O, O = textK 1 l := ⟨_, rfl⟩
  rw [← hO] at HR ⊢
  clear hO hv
  go_enter Tryd.func33, Tryd.ntmps33
  go_wp2_with fail
  with_reducible refine (HN.out _).mono ?_
  rintro e w1 ⟨rfl, hb1⟩
  have HB1 := Lib.hid hb1
  clear hb1
  go_wp2_with (refine wpList_store_row' rfl 75 (.tmp 6) (.tmp 12) rfl w1.heap.size #[.func (.func 56) #[] #[], .func (.func 57) #[] #[]] rfl rfl 75 _ (heap_alloc_new w1 _) (by kernel_rfl) rfl (by kernel_rfl) ?_; intro W3 hW3; have hrow : W3.heap[w1.heap.size]? = some (.cells #[.func (.func 56) #[] #[], .func (.func 57) #[] #[]] 75 (0, 0)) := (by rw [hW3.out]; exact setRow_heap _ _ _ _ _ _ (heap_alloc_new w1 _)); obtain ⟨x0, x1⟩ := row_cells hrow; have HB3 : Hid (Below w.heap.size w W3) := (by unfold Hid; rw [hW3.out]; exact below_setRow (HB1.out.alloc HB1.out.size _) HB1.out.size _); clear hW3 hrow)
  with_reducible refine (HR.out W3 HB3.out).mono ?_
  rintro e w4 ⟨rfl, hb4⟩
  have HB4 := Lib.hid (HB3.out.trans (hb4.mono HB3.out.size))
  clear hb4 x0 x1
  cases O with
  | none =>
    unfold textV
    go_wp2_with fail
    go_ret2
    exact ⟨rfl, HB4.out⟩
  | some t =>
    unfold textV
    go_wp2_with fail
    go_ret2
    exact ⟨rfl, HB4.out⟩
set_option maxRecDepth 100000 in
set_option maxHeartbeats 2000000 in
theorem text_2 (nm : ByteArray) (v : Value) (l : List UInt8) (w : World) (hn : nm.size ≤ 1000000) (hk : kindL nm.data.toList = 2) (hv : bytesArg w v l) (hl : l.length ≤ 100000) (_hT : Tryd.tabs w) :
    Calls Tryd.prog 33 #[.string nm, v] w fun e w' => e = .returned (errV (textK 2 l)) ∧ Below w.heap.size w w' := by
  have HN : Hid (∀ W, Calls Tryd.prog 42 #[.string nm] W fun e w' => e = .returned (.tuple #[.agg #[.func (.func 58) #[] #[], .func (.func 59) #[] #[]], .bool true]) ∧ Below W.heap.size W w') := fun W => by have h := named_any nm W hn; rw [hk] at h; exact h
  have HV := Lib.hid hv
  have HR : Hid (∀ W, Below w.heap.size w W → Calls Tryd.prog 58 #[v] W fun e w' => e = .returned (textV (textK 2 l)) ∧ Below W.heap.size W w') := fun W hb => raw_latin v l W (HV.out.below hb) hl
  obtain ⟨O, hO⟩ : ∃ O, O = textK 2 l := ⟨_, rfl⟩
  rw [← hO] at HR ⊢
  clear hO hv
  go_enter Tryd.func33, Tryd.ntmps33
  go_wp2_with fail
  with_reducible refine (HN.out _).mono ?_
  rintro e w1 ⟨rfl, hb1⟩
  have HB1 := Lib.hid hb1
  clear hb1
  go_wp2_with (refine wpList_store_row' rfl 75 (.tmp 6) (.tmp 12) rfl w1.heap.size #[.func (.func 58) #[] #[], .func (.func 59) #[] #[]] rfl rfl 75 _ (heap_alloc_new w1 _) (by kernel_rfl) rfl (by kernel_rfl) ?_; intro W3 hW3; have hrow : W3.heap[w1.heap.size]? = some (.cells #[.func (.func 58) #[] #[], .func (.func 59) #[] #[]] 75 (0, 0)) := (by rw [hW3.out]; exact setRow_heap _ _ _ _ _ _ (heap_alloc_new w1 _)); obtain ⟨x0, x1⟩ := row_cells hrow; have HB3 : Hid (Below w.heap.size w W3) := (by unfold Hid; rw [hW3.out]; exact below_setRow (HB1.out.alloc HB1.out.size _) HB1.out.size _); clear hW3 hrow)
  with_reducible refine (HR.out W3 HB3.out).mono ?_
  rintro e w4 ⟨rfl, hb4⟩
  have HB4 := Lib.hid (HB3.out.trans (hb4.mono HB3.out.size))
  clear hb4 x0 x1
  cases O with
  | none =>
    unfold textV
    go_wp2_with fail
    go_ret2
    exact ⟨rfl, HB4.out⟩
  | some t =>
    unfold textV
    go_wp2_with fail
    go_ret2
    exact ⟨rfl, HB4.out⟩
set_option maxRecDepth 100000 in
set_option maxHeartbeats 2000000 in
theorem text_3 (nm : ByteArray) (v : Value) (l : List UInt8) (w : World) (hn : nm.size ≤ 1000000) (hk : kindL nm.data.toList = 3) (hv : bytesArg w v l) (hl : l.length ≤ 100000) (hT : Tryd.tabs w) :
    Calls Tryd.prog 33 #[.string nm, v] w fun e w' => e = .returned (errV (textK 3 l)) ∧ Below w.heap.size w w' := by
  have HN : Hid (∀ W, Calls Tryd.prog 42 #[.string nm] W fun e w' => e = .returned (.tuple #[.agg #[.func (.func 60) #[] #[], .func (.func 61) #[] #[]], .bool true]) ∧ Below W.heap.size W w') := fun W => by have h := named_any nm W hn; rw [hk] at h; exact h
  have HV := Lib.hid hv
  have HTb := Lib.hid hT
  have HR : Hid (∀ W, Below w.heap.size w W → Calls Tryd.prog 60 #[v] W fun e w' => e = .returned (textV (textK 3 l)) ∧ Below W.heap.size W w') := fun W hb => raw_unicode v l W (HV.out.below hb) hl (Utf8Tabs_below HTb.out hb)
  obtain ⟨O, hO⟩ : ∃ O, O = textK 3 l := ⟨_, rfl⟩
  rw [← hO] at HR ⊢
  clear hO hv
  go_enter Tryd.func33, Tryd.ntmps33
  go_wp2_with fail
  with_reducible refine (HN.out _).mono ?_
  rintro e w1 ⟨rfl, hb1⟩
  have HB1 := Lib.hid hb1
  clear hb1
  go_wp2_with (refine wpList_store_row' rfl 75 (.tmp 6) (.tmp 12) rfl w1.heap.size #[.func (.func 60) #[] #[], .func (.func 61) #[] #[]] rfl rfl 75 _ (heap_alloc_new w1 _) (by kernel_rfl) rfl (by kernel_rfl) ?_; intro W3 hW3; have hrow : W3.heap[w1.heap.size]? = some (.cells #[.func (.func 60) #[] #[], .func (.func 61) #[] #[]] 75 (0, 0)) := (by rw [hW3.out]; exact setRow_heap _ _ _ _ _ _ (heap_alloc_new w1 _)); obtain ⟨x0, x1⟩ := row_cells hrow; have HB3 : Hid (Below w.heap.size w W3) := (by unfold Hid; rw [hW3.out]; exact below_setRow (HB1.out.alloc HB1.out.size _) HB1.out.size _); clear hW3 hrow)
  with_reducible refine (HR.out W3 HB3.out).mono ?_
  rintro e w4 ⟨rfl, hb4⟩
  have HB4 := Lib.hid (HB3.out.trans (hb4.mono HB3.out.size))
  clear hb4 x0 x1
  cases O with
  | none =>
    unfold textV
    go_wp2_with fail
    go_ret2
    exact ⟨rfl, HB4.out⟩
  | some t =>
    unfold textV
    go_wp2_with fail
    go_ret2
    exact ⟨rfl, HB4.out⟩
theorem text_any (nm : ByteArray) (v : Value) (l : List UInt8) (w : World) (hn : nm.size ≤ 1000000) (hv : bytesArg w v l) (hl : l.length ≤ 100000) (hT : Tryd.tabs w) :
    Calls Tryd.prog 33 #[.string nm, v] w fun e w' => e = .returned (errV (textK (kindL nm.data.toList) l)) ∧ Below w.heap.size w w' := by
  have h4 := kindL_lt nm.data.toList
  obtain ⟨k, hk⟩ : ∃ k, kindL nm.data.toList = k := ⟨_, rfl⟩
  rw [hk] at h4 ⊢
  match k, h4, hk with
  | 0, _, hk => exact text_0 nm v l w hn hk hv hl hT
  | 1, _, hk => exact text_1 nm v l w hn hk hv hl hT
  | 2, _, hk => exact text_2 nm v l w hn hk hv hl hT
  | 3, _, hk => exact text_3 nm v l w hn hk hv hl hT
end Go.Proofs.YtolkjaebhhbilaaDoor
