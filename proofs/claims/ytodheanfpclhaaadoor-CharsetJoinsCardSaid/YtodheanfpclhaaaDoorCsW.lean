/- Contracts of package charset: Text, Bytes. -/
import Derived.Test.YtodheanfpclhaaaDoorCsU
namespace Go.Proofs.YtodheanfpclhaaaDoor
open Go Go.RowKit

theorem row_cells {W : World} {g : Nat} {a b : Value} {t : TypeId} (h : W.heap[g]? = some (.cells #[a, b] t (0, 0))) : W.cell? ⟨g, 0, none⟩ = some a ∧ W.cell? ⟨g, 1, none⟩ = some b := by
  simp [World.cell?, h]
def bytE (o : Option (List UInt8)) (v : Value) (w' : World) : Prop := match o with
  | some t => ∃ u, v = .tuple #[u, .int .i64 0] ∧ bytesArg w' u t
  | none => v = .tuple #[.slice none 0 0, .int .i64 21]
theorem textK0 (l : List UInt8) : textK 0 l = none := rfl
theorem bytesK0 (l : List UInt8) : bytesK 0 l = none := rfl
set_option maxRecDepth 100000 in
set_option maxHeartbeats 2000000 in
theorem text_0 (nm : ByteArray) (v : Value) (l : List UInt8) (w : World) (hn : nm.size ≤ 1000000) (hk : kindL nm.data.toList = 0) (_hv : bytesArg w v l) (_hl : l.length ≤ 100000) (_hT : Tryd.tabs w) :
    Calls Tryd.prog 8 #[.string nm, v] w fun e w' => e = .returned (errV (textK 0 l)) ∧ Below w.heap.size w w' := by
  have HN : Hid (∀ W, Calls Tryd.prog 14 #[.string nm] W fun e w' => e = .returned (.tuple #[.agg #[.nilFunc, .nilFunc], .bool false]) ∧ Below W.heap.size W w') := fun W => by have h := named_any nm W hn; rw [hk] at h; exact h
  rw [textK0]
  go_enter Tryd.func8, Tryd.ntmps8
  go_wp2_with fail
  with_reducible refine (HN.out _).mono ?_
  rintro e w1 ⟨rfl, hb1⟩
  have HB1 := Lib.hid hb1
  clear hb1
  go_wp2_with (refine wpList_store_row' rfl 38 (.tmp 6) (.tmp 12) rfl w1.heap.size #[.nilFunc, .nilFunc] rfl rfl 38 _ (heap_alloc_new w1 _) (by kernel_rfl) rfl (by kernel_rfl) ?_; intro W3 hW3; have HB3 : Hid (Below w.heap.size w W3) := (by unfold Hid; rw [hW3.out]; exact below_setRow (HB1.out.alloc HB1.out.size _) HB1.out.size _))
  go_ret2
  exact ⟨rfl, HB3.out⟩
set_option maxRecDepth 100000 in
set_option maxHeartbeats 2000000 in
theorem text_1 (nm : ByteArray) (v : Value) (l : List UInt8) (w : World) (hn : nm.size ≤ 1000000) (hk : kindL nm.data.toList = 1) (hv : bytesArg w v l) (hl : l.length ≤ 100000) (_hT : Tryd.tabs w) :
    Calls Tryd.prog 8 #[.string nm, v] w fun e w' => e = .returned (errV (textK 1 l)) ∧ Below w.heap.size w w' := by
  have HN : Hid (∀ W, Calls Tryd.prog 14 #[.string nm] W fun e w' => e = .returned (.tuple #[.agg #[.func (.func 22) #[] #[], .func (.func 23) #[] #[]], .bool true]) ∧ Below W.heap.size W w') := fun W => by have h := named_any nm W hn; rw [hk] at h; exact h
  have HV := Lib.hid hv
  have HR : Hid (∀ W, Below w.heap.size w W → Calls Tryd.prog 22 #[v] W fun e w' => e = .returned (textV (textK 1 l)) ∧ Below W.heap.size W w') := fun W hb => raw_ascii v l W (HV.out.below hb) hl
  obtain ⟨O, hO⟩ : ∃ O, O = textK 1 l := ⟨_, rfl⟩
  rw [← hO] at HR ⊢
  clear hO hv
  go_enter Tryd.func8, Tryd.ntmps8
  go_wp2_with fail
  with_reducible refine (HN.out _).mono ?_
  rintro e w1 ⟨rfl, hb1⟩
  have HB1 := Lib.hid hb1
  clear hb1
  go_wp2_with (refine wpList_store_row' rfl 38 (.tmp 6) (.tmp 12) rfl w1.heap.size #[.func (.func 22) #[] #[], .func (.func 23) #[] #[]] rfl rfl 38 _ (heap_alloc_new w1 _) (by kernel_rfl) rfl (by kernel_rfl) ?_; intro W3 hW3; have hrow : W3.heap[w1.heap.size]? = some (.cells #[.func (.func 22) #[] #[], .func (.func 23) #[] #[]] 38 (0, 0)) := (by rw [hW3.out]; exact setRow_heap _ _ _ _ _ _ (heap_alloc_new w1 _)); obtain ⟨x0, x1⟩ := row_cells hrow; have HB3 : Hid (Below w.heap.size w W3) := (by unfold Hid; rw [hW3.out]; exact below_setRow (HB1.out.alloc HB1.out.size _) HB1.out.size _); clear hW3 hrow)
  with_reducible refine (HR.out W3 HB3.out).mono ?_
  rintro e w4 ⟨rfl, hb4⟩
  have HB4 := Lib.hid (HB3.out.trans (hb4.mono HB3.out.size))
  clear hb4 x0 x1
  cases O with
  | none =>
    unfold textV
    go_wp2_with fail
    go_ret2
    exact ⟨rfl, HB4.out⟩
  | some t =>
    unfold textV
    go_wp2_with fail
    go_ret2
    exact ⟨rfl, HB4.out⟩
set_option maxRecDepth 100000 in
set_option maxHeartbeats 2000000 in
theorem text_2 (nm : ByteArray) (v : Value) (l : List UInt8) (w : World) (hn : nm.size ≤ 1000000) (hk : kindL nm.data.toList = 2) (hv : bytesArg w v l) (hl : l.length ≤ 100000) (_hT : Tryd.tabs w) :
    Calls Tryd.prog 8 #[.string nm, v] w fun e w' => e = .returned (errV (textK 2 l)) ∧ Below w.heap.size w w' := by
  have HN : Hid (∀ W, Calls Tryd.prog 14 #[.string nm] W fun e w' => e = .returned (.tuple #[.agg #[.func (.func 24) #[] #[], .func (.func 25) #[] #[]], .bool true]) ∧ Below W.heap.size W w') := fun W => by have h := named_any nm W hn; rw [hk] at h; exact h
  have HV := Lib.hid hv
  have HR : Hid (∀ W, Below w.heap.size w W → Calls Tryd.prog 24 #[v] W fun e w' => e = .returned (textV (textK 2 l)) ∧ Below W.heap.size W w') := fun W hb => raw_latin v l W (HV.out.below hb) hl
  obtain ⟨O, hO⟩ : ∃ O, O = textK 2 l := ⟨_, rfl⟩
  rw [← hO] at HR ⊢
  clear hO hv
  go_enter Tryd.func8, Tryd.ntmps8
  go_wp2_with fail
  with_reducible refine (HN.out _).mono ?_
  rintro e w1 ⟨rfl, hb1⟩
  have HB1 := Lib.hid hb1
  clear hb1
  go_wp2_with (refine wpList_store_row' rfl 38 (.tmp 6) (.tmp 12) rfl w1.heap.size #[.func (.func 24) #[] #[], .func (.func 25) #[] #[]] rfl rfl 38 _ (heap_alloc_new w1 _) (by kernel_rfl) rfl (by kernel_rfl) ?_; intro W3 hW3; have hrow : W3.heap[w1.heap.size]? = some (.cells #[.func (.func 24) #[] #[], .func (.func 25) #[] #[]] 38 (0, 0)) := (by rw [hW3.out]; exact setRow_heap _ _ _ _ _ _ (heap_alloc_new w1 _)); obtain ⟨x0, x1⟩ := row_cells hrow; have HB3 : Hid (Below w.heap.size w W3) := (by unfold Hid; rw [hW3.out]; exact below_setRow (HB1.out.alloc HB1.out.size _) HB1.out.size _); clear hW3 hrow)
  with_reducible refine (HR.out W3 HB3.out).mono ?_
  rintro e w4 ⟨rfl, hb4⟩
  have HB4 := Lib.hid (HB3.out.trans (hb4.mono HB3.out.size))
  clear hb4 x0 x1
  cases O with
  | none =>
    unfold textV
    go_wp2_with fail
    go_ret2
    exact ⟨rfl, HB4.out⟩
  | some t =>
    unfold textV
    go_wp2_with fail
    go_ret2
    exact ⟨rfl, HB4.out⟩
set_option maxRecDepth 100000 in
set_option maxHeartbeats 2000000 in
theorem text_3 (nm : ByteArray) (v : Value) (l : List UInt8) (w : World) (hn : nm.size ≤ 1000000) (hk : kindL nm.data.toList = 3) (hv : bytesArg w v l) (hl : l.length ≤ 100000) (hT : Tryd.tabs w) :
    Calls Tryd.prog 8 #[.string nm, v] w fun e w' => e = .returned (errV (textK 3 l)) ∧ Below w.heap.size w w' := by
  have HN : Hid (∀ W, Calls Tryd.prog 14 #[.string nm] W fun e w' => e = .returned (.tuple #[.agg #[.func (.func 26) #[] #[], .func (.func 27) #[] #[]], .bool true]) ∧ Below W.heap.size W w') := fun W => by have h := named_any nm W hn; rw [hk] at h; exact h
  have HV := Lib.hid hv
  have HTb := Lib.hid hT
  have HR : Hid (∀ W, Below w.heap.size w W → Calls Tryd.prog 26 #[v] W fun e w' => e = .returned (textV (textK 3 l)) ∧ Below W.heap.size W w') := fun W hb => raw_unicode v l W (HV.out.below hb) hl (Utf8Tabs_below HTb.out hb)
  obtain ⟨O, hO⟩ : ∃ O, O = textK 3 l := ⟨_, rfl⟩
  rw [← hO] at HR ⊢
  clear hO hv
  go_enter Tryd.func8, Tryd.ntmps8
  go_wp2_with fail
  with_reducible refine (HN.out _).mono ?_
  rintro e w1 ⟨rfl, hb1⟩
  have HB1 := Lib.hid hb1
  clear hb1
  go_wp2_with (refine wpList_store_row' rfl 38 (.tmp 6) (.tmp 12) rfl w1.heap.size #[.func (.func 26) #[] #[], .func (.func 27) #[] #[]] rfl rfl 38 _ (heap_alloc_new w1 _) (by kernel_rfl) rfl (by kernel_rfl) ?_; intro W3 hW3; have hrow : W3.heap[w1.heap.size]? = some (.cells #[.func (.func 26) #[] #[], .func (.func 27) #[] #[]] 38 (0, 0)) := (by rw [hW3.out]; exact setRow_heap _ _ _ _ _ _ (heap_alloc_new w1 _)); obtain ⟨x0, x1⟩ := row_cells hrow; have HB3 : Hid (Below w.heap.size w W3) := (by unfold Hid; rw [hW3.out]; exact below_setRow (HB1.out.alloc HB1.out.size _) HB1.out.size _); clear hW3 hrow)
  with_reducible refine (HR.out W3 HB3.out).mono ?_
  rintro e w4 ⟨rfl, hb4⟩
  have HB4 := Lib.hid (HB3.out.trans (hb4.mono HB3.out.size))
  clear hb4 x0 x1
  cases O with
  | none =>
    unfold textV
    go_wp2_with fail
    go_ret2
    exact ⟨rfl, HB4.out⟩
  | some t =>
    unfold textV
    go_wp2_with fail
    go_ret2
    exact ⟨rfl, HB4.out⟩
set_option maxRecDepth 100000 in
set_option maxHeartbeats 2000000 in
theorem bytes_0 (nm s : ByteArray) (w : World) (hn : nm.size ≤ 1000000) (hk : kindL nm.data.toList = 0) (_hl : s.size ≤ 100000) (_hT : Tryd.tabs w) :
    Calls Tryd.prog 10 #[.string nm, .string s] w fun e w' => (∃ v, e = .returned v ∧ bytE (bytesK 0 s.data.toList) v w') ∧ Below w.heap.size w w' := by
  have HN : Hid (∀ W, Calls Tryd.prog 14 #[.string nm] W fun e w' => e = .returned (.tuple #[.agg #[.nilFunc, .nilFunc], .bool false]) ∧ Below W.heap.size W w') := fun W => by have h := named_any nm W hn; rw [hk] at h; exact h
  rw [bytesK0]
  go_enter Tryd.func10, Tryd.ntmps10
  go_wp2_with fail
  with_reducible refine (HN.out _).mono ?_
  rintro e w1 ⟨rfl, hb1⟩
  have HB1 := Lib.hid hb1
  clear hb1
  go_wp2_with (refine wpList_store_row' rfl 38 (.tmp 6) (.tmp 12) rfl w1.heap.size #[.nilFunc, .nilFunc] rfl rfl 38 _ (heap_alloc_new w1 _) (by kernel_rfl) rfl (by kernel_rfl) ?_; intro W3 hW3; have HB3 : Hid (Below w.heap.size w W3) := (by unfold Hid; rw [hW3.out]; exact below_setRow (HB1.out.alloc HB1.out.size _) HB1.out.size _))
  go_ret2
  exact ⟨⟨_, rfl, rfl⟩, HB3.out⟩
set_option maxRecDepth 100000 in
set_option maxHeartbeats 2000000 in
theorem bytes_1 (nm s : ByteArray) (w : World) (hn : nm.size ≤ 1000000) (hk : kindL nm.data.toList = 1) (hl : s.size ≤ 100000) (_hT : Tryd.tabs w) :
    Calls Tryd.prog 10 #[.string nm, .string s] w fun e w' => (∃ v, e = .returned v ∧ bytE (bytesK 1 s.data.toList) v w') ∧ Below w.heap.size w w' := by
  have HN : Hid (∀ W, Calls Tryd.prog 14 #[.string nm] W fun e w' => e = .returned (.tuple #[.agg #[.func (.func 22) #[] #[], .func (.func 23) #[] #[]], .bool true]) ∧ Below W.heap.size W w') := fun W => by have h := named_any nm W hn; rw [hk] at h; exact h
  have HR : Hid (∀ W, Below w.heap.size w W → Calls Tryd.prog 23 #[.string s] W fun e w' => (∃ v, e = .returned v ∧ bytV (bytesK 1 s.data.toList) v w') ∧ Below W.heap.size W w') := fun W _ => txt_ascii s W hl
  obtain ⟨O, hO⟩ : ∃ O, O = bytesK 1 s.data.toList := ⟨_, rfl⟩
  rw [← hO] at HR ⊢
  clear hO
  go_enter Tryd.func10, Tryd.ntmps10
  go_wp2_with fail
  with_reducible refine (HN.out _).mono ?_
  rintro e w1 ⟨rfl, hb1⟩
  have HB1 := Lib.hid hb1
  clear hb1
  go_wp2_with (refine wpList_store_row' rfl 38 (.tmp 6) (.tmp 12) rfl w1.heap.size #[.func (.func 22) #[] #[], .func (.func 23) #[] #[]] rfl rfl 38 _ (heap_alloc_new w1 _) (by kernel_rfl) rfl (by kernel_rfl) ?_; intro W3 hW3; have hrow : W3.heap[w1.heap.size]? = some (.cells #[.func (.func 22) #[] #[], .func (.func 23) #[] #[]] 38 (0, 0)) := (by rw [hW3.out]; exact setRow_heap _ _ _ _ _ _ (heap_alloc_new w1 _)); obtain ⟨x0, x1⟩ := row_cells hrow; have HB3 : Hid (Below w.heap.size w W3) := (by unfold Hid; rw [hW3.out]; exact below_setRow (HB1.out.alloc HB1.out.size _) HB1.out.size _); clear hW3 hrow)
  with_reducible refine (HR.out W3 HB3.out).mono ?_
  rintro e w4 ⟨⟨v, rfl, hv⟩, hb4⟩
  have HB4 := Lib.hid (HB3.out.trans (hb4.mono HB3.out.size))
  clear hb4 x0 x1
  cases O with
  | none =>
    unfold bytV at hv
    subst hv
    go_wp2_with fail
    go_ret2
    exact ⟨⟨_, rfl, rfl⟩, HB4.out⟩
  | some t =>
    obtain ⟨u, rfl, harg⟩ := hv
    have HU := Lib.hid harg
    clear harg
    go_wp2_with fail
    go_ret2
    exact ⟨⟨_, rfl, _, rfl, HU.out⟩, HB4.out⟩
set_option maxRecDepth 100000 in
set_option maxHeartbeats 2000000 in
theorem bytes_2 (nm s : ByteArray) (w : World) (hn : nm.size ≤ 1000000) (hk : kindL nm.data.toList = 2) (hl : s.size ≤ 100000) (_hT : Tryd.tabs w) :
    Calls Tryd.prog 10 #[.string nm, .string s] w fun e w' => (∃ v, e = .returned v ∧ bytE (bytesK 2 s.data.toList) v w') ∧ Below w.heap.size w w' := by
  have HN : Hid (∀ W, Calls Tryd.prog 14 #[.string nm] W fun e w' => e = .returned (.tuple #[.agg #[.func (.func 24) #[] #[], .func (.func 25) #[] #[]], .bool true]) ∧ Below W.heap.size W w') := fun W => by have h := named_any nm W hn; rw [hk] at h; exact h
  have HR : Hid (∀ W, Below w.heap.size w W → Calls Tryd.prog 25 #[.string s] W fun e w' => (∃ v, e = .returned v ∧ bytV (bytesK 2 s.data.toList) v w') ∧ Below W.heap.size W w') := fun W _ => txt_latin s W hl
  obtain ⟨O, hO⟩ : ∃ O, O = bytesK 2 s.data.toList := ⟨_, rfl⟩
  rw [← hO] at HR ⊢
  clear hO
  go_enter Tryd.func10, Tryd.ntmps10
  go_wp2_with fail
  with_reducible refine (HN.out _).mono ?_
  rintro e w1 ⟨rfl, hb1⟩
  have HB1 := Lib.hid hb1
  clear hb1
  go_wp2_with (refine wpList_store_row' rfl 38 (.tmp 6) (.tmp 12) rfl w1.heap.size #[.func (.func 24) #[] #[], .func (.func 25) #[] #[]] rfl rfl 38 _ (heap_alloc_new w1 _) (by kernel_rfl) rfl (by kernel_rfl) ?_; intro W3 hW3; have hrow : W3.heap[w1.heap.size]? = some (.cells #[.func (.func 24) #[] #[], .func (.func 25) #[] #[]] 38 (0, 0)) := (by rw [hW3.out]; exact setRow_heap _ _ _ _ _ _ (heap_alloc_new w1 _)); obtain ⟨x0, x1⟩ := row_cells hrow; have HB3 : Hid (Below w.heap.size w W3) := (by unfold Hid; rw [hW3.out]; exact below_setRow (HB1.out.alloc HB1.out.size _) HB1.out.size _); clear hW3 hrow)
  with_reducible refine (HR.out W3 HB3.out).mono ?_
  rintro e w4 ⟨⟨v, rfl, hv⟩, hb4⟩
  have HB4 := Lib.hid (HB3.out.trans (hb4.mono HB3.out.size))
  clear hb4 x0 x1
  cases O with
  | none =>
    unfold bytV at hv
    subst hv
    go_wp2_with fail
    go_ret2
    exact ⟨⟨_, rfl, rfl⟩, HB4.out⟩
  | some t =>
    obtain ⟨u, rfl, harg⟩ := hv
    have HU := Lib.hid harg
    clear harg
    go_wp2_with fail
    go_ret2
    exact ⟨⟨_, rfl, _, rfl, HU.out⟩, HB4.out⟩
set_option maxRecDepth 100000 in
set_option maxHeartbeats 2000000 in
theorem bytes_3 (nm s : ByteArray) (w : World) (hn : nm.size ≤ 1000000) (hk : kindL nm.data.toList = 3) (hl : s.size ≤ 100000) (hT : Tryd.tabs w) :
    Calls Tryd.prog 10 #[.string nm, .string s] w fun e w' => (∃ v, e = .returned v ∧ bytE (bytesK 3 s.data.toList) v w') ∧ Below w.heap.size w w' := by
  have HN : Hid (∀ W, Calls Tryd.prog 14 #[.string nm] W fun e w' => e = .returned (.tuple #[.agg #[.func (.func 26) #[] #[], .func (.func 27) #[] #[]], .bool true]) ∧ Below W.heap.size W w') := fun W => by have h := named_any nm W hn; rw [hk] at h; exact h
  have HTb := Lib.hid hT
  have HR : Hid (∀ W, Below w.heap.size w W → Calls Tryd.prog 27 #[.string s] W fun e w' => (∃ v, e = .returned v ∧ bytV (bytesK 3 s.data.toList) v w') ∧ Below W.heap.size W w') := fun W hb => txt_unicode s W hl (Utf8Tabs_below HTb.out hb)
  obtain ⟨O, hO⟩ : ∃ O, O = bytesK 3 s.data.toList := ⟨_, rfl⟩
  rw [← hO] at HR ⊢
  clear hO
  go_enter Tryd.func10, Tryd.ntmps10
  go_wp2_with fail
  with_reducible refine (HN.out _).mono ?_
  rintro e w1 ⟨rfl, hb1⟩
  have HB1 := Lib.hid hb1
  clear hb1
  go_wp2_with (refine wpList_store_row' rfl 38 (.tmp 6) (.tmp 12) rfl w1.heap.size #[.func (.func 26) #[] #[], .func (.func 27) #[] #[]] rfl rfl 38 _ (heap_alloc_new w1 _) (by kernel_rfl) rfl (by kernel_rfl) ?_; intro W3 hW3; have hrow : W3.heap[w1.heap.size]? = some (.cells #[.func (.func 26) #[] #[], .func (.func 27) #[] #[]] 38 (0, 0)) := (by rw [hW3.out]; exact setRow_heap _ _ _ _ _ _ (heap_alloc_new w1 _)); obtain ⟨x0, x1⟩ := row_cells hrow; have HB3 : Hid (Below w.heap.size w W3) := (by unfold Hid; rw [hW3.out]; exact below_setRow (HB1.out.alloc HB1.out.size _) HB1.out.size _); clear hW3 hrow)
  with_reducible refine (HR.out W3 HB3.out).mono ?_
  rintro e w4 ⟨⟨v, rfl, hv⟩, hb4⟩
  have HB4 := Lib.hid (HB3.out.trans (hb4.mono HB3.out.size))
  clear hb4 x0 x1
  cases O with
  | none =>
    unfold bytV at hv
    subst hv
    go_wp2_with fail
    go_ret2
    exact ⟨⟨_, rfl, rfl⟩, HB4.out⟩
  | some t =>
    obtain ⟨u, rfl, harg⟩ := hv
    have HU := Lib.hid harg
    clear harg
    go_wp2_with fail
    go_ret2
    exact ⟨⟨_, rfl, _, rfl, HU.out⟩, HB4.out⟩
theorem text_any (nm : ByteArray) (v : Value) (l : List UInt8) (w : World) (hn : nm.size ≤ 1000000) (hv : bytesArg w v l) (hl : l.length ≤ 100000) (hT : Tryd.tabs w) :
    Calls Tryd.prog 8 #[.string nm, v] w fun e w' => e = .returned (errV (textK (kindL nm.data.toList) l)) ∧ Below w.heap.size w w' := by
  have h4 := kindL_lt nm.data.toList
  obtain ⟨k, hk⟩ : ∃ k, kindL nm.data.toList = k := ⟨_, rfl⟩
  rw [hk] at h4 ⊢
  match k, h4, hk with
  | 0, _, hk => exact text_0 nm v l w hn hk hv hl hT
  | 1, _, hk => exact text_1 nm v l w hn hk hv hl hT
  | 2, _, hk => exact text_2 nm v l w hn hk hv hl hT
  | 3, _, hk => exact text_3 nm v l w hn hk hv hl hT
theorem bytes_any (nm s : ByteArray) (w : World) (hn : nm.size ≤ 1000000) (hl : s.size ≤ 100000) (hT : Tryd.tabs w) :
    Calls Tryd.prog 10 #[.string nm, .string s] w fun e w' => (∃ v, e = .returned v ∧ bytE (bytesK (kindL nm.data.toList) s.data.toList) v w') ∧ Below w.heap.size w w' := by
  have h4 := kindL_lt nm.data.toList
  obtain ⟨k, hk⟩ : ∃ k, kindL nm.data.toList = k := ⟨_, rfl⟩
  rw [hk] at h4 ⊢
  match k, h4, hk with
  | 0, _, hk => exact bytes_0 nm s w hn hk hl hT
  | 1, _, hk => exact bytes_1 nm s w hn hk hl hT
  | 2, _, hk => exact bytes_2 nm s w hn hk hl hT
  | 3, _, hk => exact bytes_3 nm s w hn hk hl hT
end Go.Proofs.YtodheanfpclhaaaDoor
