/- Contracts of package date: what makes pieces; years of two digits. -/
import Derived.Test.YtpmjlhpbknppiaaDoorDtB
namespace Go.Proofs.YtpmjlhpbknppiaaDoor
open Go Go.RowKit

theorem Takes.call {τ : Tg} {w : World} {g : FuncId} {lb : Array Value} {f : Pf} (h : Takes τ w (.func (.func g) #[] lb) f) : Enters Tryd.prog g ∧ ∀ (W : World) (σ : Sg) (s : ByteArray), Lt τ w W → Holds τ W σ → s.size ≤ 9223372036854775807 →
    Calls Tryd.prog g (#[.string s] ++ lb) W fun e w' => Told (f σ s.data.toList).1 s.size e ∧ Lt τ W w' ∧ Holds τ w' (f σ s.data.toList).2 := by
  obtain ⟨g', lb', e, hg, hc⟩ := h
  simp only [Value.func.injEq, Fn.func.injEq, true_and] at e
  obtain ⟨rfl, rfl⟩ := e
  exact ⟨hg, hc⟩
theorem size_alloc' (w : World) (o : Obj) : (w.alloc o).heap.size = w.heap.size + 1 := by simp
theorem Lt.alloc {τ : Tg} (w : World) (o : Obj) : Lt τ w (w.alloc o) := Lt.of_below ((Below.refl _ _).alloc (Nat.le_refl _) _)
theorem Lt.below1 {H i base : Nat} {w W : World} (h : Lt [(H, i)] w W) (hb : base ≤ H) (hs : base ≤ w.heap.size) : Below base w W :=
  h.below (fun b hx => by
    obtain rfl : b = (H, i) := by simpa using hx
    exact hb) hs
/-- Where pieces write to lies below a place. -/
def Low (τ : Tg) (n : Nat) : Prop := ∀ a ∈ τ, a.1 < n
theorem Low.off {τ : Tg} {n k : Nat} (h : Low τ n) (hk : n ≤ k) : Off τ k := fun a ha e => by have := h a ha; omega
theorem Low.mono {τ : Tg} {n m : Nat} (h : Low τ n) (hm : n ≤ m) : Low τ m := fun a ha => Nat.lt_of_lt_of_le (h a ha) hm
theorem cell_new1 (w : World) (x : Value) (t : TypeId) : (w.alloc (.cells #[x] t)).cell? ⟨w.heap.size, 0, none⟩ = some x := by
  simp only [World.cell?, heap_alloc_new]
  rfl
theorem cell_new2 (w : World) (x y : Value) (t u : TypeId) : ((w.alloc (.cells #[x] t)).alloc (.cells #[y] u)).cell? ⟨w.heap.size, 0, none⟩ = some x := by
  have h := ((Below.refl _ _).alloc (Nat.le_refl _) (.cells #[y] u) : Below (w.alloc (.cells #[x] t)).heap.size (w.alloc (.cells #[x] t)) _).cell (p := ⟨w.heap.size, 0, none⟩) (by simp)
  rw [h]
  exact cell_new1 w x t
theorem below_two (w : World) (x y : Obj) : Below w.heap.size w ((w.alloc x).alloc y) := ((Below.refl _ _).alloc (Nat.le_refl _) _).alloc (by simp) _
def MakesP (τ : Tg) (w : World) (f : Pf) (e : Ending) (w' : World) : Prop := ∃ g lb, e = .returned (.func (.func g) #[] lb) ∧ Takes τ w' (.func (.func g) #[] lb) f ∧ Below w.heap.size w w'

set_option maxRecDepth 100000 in
theorem row_any (τ : Tg) (sv : Value) (fs : List Pf) (w : World) (hl : Low τ w.heap.size) (hp : Pcs τ w sv fs) :
    Calls Tryd.prog 19 #[sv] w (MakesP τ w (rowF fs)) := by
  unfold MakesP
  obtain ⟨ao, cap, rfl, hca, hcm, hcell⟩ := hp
  have hp : Pcs τ w (.slice ao fs.length cap) fs := ⟨ao, cap, rfl, hca, hcm, hcell⟩
  have HP := Lib.hid hp
  clear hcell hp hcm
  go_enter Tryd.func19, Tryd.ntmps19
  go_wp2
  go_ret
  refine ⟨_, _, rfl, ⟨48, #[.pointer (some ⟨w.heap.size, 0, none⟩)], rfl, enters_of Tryd.func48 (by kernel_rfl) rfl, ?_⟩, (Below.refl _ _).alloc (Nat.le_refl _) _⟩
  intro W σ s hL hH hs
  have ho : Off τ w.heap.size := hl.off (Nat.le_refl _)
  exact row1_any τ _ _ fs W ((hL.cell (by simp) ho).trans (cell_new1 w _ _)) ho (HP.out.lt ((Lt.alloc w _).trans hL)) σ s hH hs
set_option maxRecDepth 100000 in
theorem either_any (τ : Tg) (sv : Value) (fs : List Pf) (w : World) (hl : Low τ w.heap.size) (hp : Pcs τ w sv fs) :
    Calls Tryd.prog 15 #[sv] w (MakesP τ w (eitherF fs)) := by
  unfold MakesP
  obtain ⟨ao, cap, rfl, hca, hcm, hcell⟩ := hp
  have hp : Pcs τ w (.slice ao fs.length cap) fs := ⟨ao, cap, rfl, hca, hcm, hcell⟩
  have HP := Lib.hid hp
  clear hcell hp hcm
  go_enter Tryd.func15, Tryd.ntmps15
  go_wp2
  go_ret
  refine ⟨_, _, rfl, ⟨43, #[.pointer (some ⟨w.heap.size, 0, none⟩)], rfl, enters_of Tryd.func43 (by kernel_rfl) rfl, ?_⟩, (Below.refl _ _).alloc (Nat.le_refl _) _⟩
  intro W σ s hL hH hs
  have ho : Off τ w.heap.size := hl.off (Nat.le_refl _)
  exact either1_any τ _ _ fs W ((hL.cell (by simp) ho).trans (cell_new1 w _ _)) ho (HP.out.lt ((Lt.alloc w _).trans hL)) σ s hH hs
set_option maxRecDepth 100000 in
theorem mark_any (τ : Tg) (t : ByteArray) (w : World) (hl : Low τ w.heap.size) :
    Calls Tryd.prog 20 #[.string t] w (MakesP τ w (markF t.data.toList)) := by
  unfold MakesP
  go_enter Tryd.func20, Tryd.ntmps20
  go_wp2
  go_ret
  refine ⟨_, _, rfl, ⟨49, #[.pointer (some ⟨w.heap.size, 0, none⟩)], rfl, enters_of Tryd.func49 (by kernel_rfl) rfl, ?_⟩, (Below.refl _ _).alloc (Nat.le_refl _) _⟩
  intro W σ s hL hH hs
  have ho : Off τ w.heap.size := hl.off (Nat.le_refl _)
  exact mark1_any τ _ t W ((hL.cell (by simp) ho).trans (cell_new1 w _ _)) σ s hH
set_option maxRecDepth 100000 in
theorem digits_mk (τ : Tg) (b i : Nat) (ha : (b, i) ∈ τ) (n : Nat) (k : Int) (hk : (n : Int) = k) (hn : n ≤ 9) (w : World) (hl : Low τ w.heap.size) :
    Calls Tryd.prog 16 #[.int .i64 k, .pointer (some ⟨b, i, none⟩)] w (MakesP τ w (digF n (b, i))) := by
  subst hk
  unfold MakesP
  go_enter Tryd.func16, Tryd.ntmps16
  go_wp2
  go_ret
  refine ⟨_, _, rfl, ⟨44, #[.pointer (some ⟨w.heap.size, 0, none⟩), .pointer (some ⟨w.heap.size + 1, 0, none⟩)], ?_, enters_of Tryd.func44 (by kernel_rfl) rfl, ?_⟩, below_two w _ _⟩
  · simp
  intro W σ s hL hH hs
  have ho : Off τ w.heap.size := hl.off (Nat.le_refl _)
  have ho1 : Off τ (w.heap.size + 1) := hl.off (by omega)
  refine digits1_any τ (b, i) ha n hn _ _ W ((hL.cell (by rw [size_alloc', size_alloc']; omega) ho).trans (cell_new2 w _ _ _ _)) ho ((hL.cell (by rw [size_alloc', size_alloc']; exact Nat.lt_succ_self _) ho1).trans ?_) σ s hH hs
  have := cell_new1 (w.alloc (.cells #[.int .i64 (n : Int)] 3)) (.pointer (some ⟨b, i, none⟩)) 45
  rw [size_alloc'] at this
  exact this
theorem short_lt (l : List UInt8) : shortN l ≤ 2100 := by
  unfold shortN
  split
  · next h =>
    have := numOf_lt _ h.2
    rw [List.length_take] at this
    have h9 : 10 ^ min 2 l.length ≤ 10 ^ 2 := Nat.pow_le_pow_right (by omega) (by omega)
    split <;> omega
  · omega
theorem short_two (h a : Nat × Nat) (σ : Sg) (l : List UInt8) : ∃ (o : Option (List UInt8)) (N : Nat), N ≤ 99 ∧ digF 2 h (fun _ => 0) l = (o, fun b => if b = h then (N : Int) else 0) ∧ shortF a σ l = (o, upd σ a ((if 50 ≤ N then N + 1900 else N + 2000 : Nat) : Int)) := by
  unfold digF shortF shortN
  by_cases hd : digOk 2 l
  · have hn9 := numOf_lt _ hd.2
    rw [List.length_take, Nat.min_eq_left hd.1] at hn9
    simp only [if_pos hd]
    exact ⟨_, _, by omega, rfl, rfl⟩
  · simp only [if_neg hd]
    exact ⟨none, 0, by omega, by simp, rfl⟩
set_option maxRecDepth 100000 in
set_option maxHeartbeats 2000000 in
theorem shortYear1_any (τ : Tg) (a : Nat × Nat) (ha : a ∈ τ) (B : Nat) (_hO : Off τ B) (w : World) (h1 : w.cell? ⟨B, 0, none⟩ = some (.pointer (some ⟨a.1, a.2, none⟩))) (σ : Sg) (s : ByteArray) (hh : Holds τ w σ) (hs : s.size ≤ 9223372036854775807) :
    Calls Tryd.prog 47 #[.string s, .pointer (some ⟨B, 0, none⟩)] w fun e w' => Told (shortF a σ s.data.toList).1 s.size e ∧ Lt τ w w' ∧ Holds τ w' (shortF a σ s.data.toList).2 := by
  have hB : B < w.heap.size := World.block_lt_of_cell? _ _ h1
  have hal := hh.lt ha
  have HH := Lib.hid hh
  have HA := Lib.hid ha
  have HM := Lib.hid (fun τ b i ha w hl => digits_mk τ b i ha 2 2 rfl (by omega) w hl)
  obtain ⟨ab, ao⟩ := a
  simp only at h1 hal
  unfold MakesP at HM
  -- the variable of its own
  obtain ⟨W1, hW1⟩ : ∃ W1, W1 = w.alloc (.cells #[.int .i64 0] 3) := ⟨_, rfl⟩
  have hb1 : Below w.heap.size w W1 := by rw [hW1]; exact (Below.refl _ _).alloc (Nat.le_refl _) _
  have hsz : W1.heap.size = w.heap.size + 1 := by rw [hW1]; simp
  have hown : Holds [(w.heap.size, 0)] W1 (fun _ => 0) := by
    intro b hb
    obtain rfl : b = (w.heap.size, 0) := by simpa using hb
    rw [hW1]
    exact ⟨cell_new1 w _ _, World.frozen?_alloc_new w _ _ _⟩
  have hlow : Low [(w.heap.size, 0)] W1.heap.size := by
    intro b hb
    obtain rfl : b = (w.heap.size, 0) := by simpa using hb
    rw [hsz]
    exact Nat.lt_succ_self _
  clear hh ha
  go_enter Tryd.func47, Tryd.ntmps47
  go_wp2_with fail
  rw [← hW1]
  with_reducible refine (HM.out _ w.heap.size 0 (List.mem_singleton.2 rfl) W1 hlow).mono ?_
  rintro e w2 ⟨g, lb, rfl, ht, hb2⟩
  obtain ⟨hen, hcall⟩ := ht.call
  clear ht
  have eg : ∀ args w, (callFunc g args).run Tryd.prog w = .ok (.enter g args) w := hen
  have cS := hcall w2 (fun _ => 0) s (Lt.refl _ _) (hown.below hb2) hs
  have HB2 := Lib.hid (hb1.trans (hb2.mono hb1.size))
  have hsz2 : w.heap.size < w2.heap.size := by have := hb2.size; omega
  have hal2 : (ab, ao).1 ≠ w.heap.size := by simp only; omega
  clear hcall hen hown hlow hb1 hb2 hW1 HM hsz
  obtain ⟨o, N, hN9, hX, hR⟩ := short_two (w.heap.size, 0) (ab, ao) σ s.data.toList
  rw [hX] at cS
  have HR := Lib.hid hR
  clear hX hR
  by_cases h50 : 50 ≤ N
  case' pos =>
    have h50i : ¬ ((N : Int) < 50) := by omega
    rw [if_pos h50] at HR
  case' neg =>
    have h50i : (N : Int) < 50 := by omega
    rw [if_neg h50] at HR
  all_goals
    go_wp2_with fail
    refine cS.mono ?_
    rintro e w3 ⟨ht, hk3, hh3⟩
    obtain ⟨t2, rfl, hl2, hs2⟩ := ht
    obtain ⟨hc3, hf3⟩ := hh3 (w.heap.size, 0) (List.mem_singleton.2 rfl)
    have hc3' : w3.cell? ⟨w.heap.size, 0, none⟩ = some (.int .i64 (N : Int)) := by rw [hc3]; simp
    have hf3' : w3.frozen? ⟨w.heap.size, 0, none⟩ = false := hf3
    have hb3 : Below w.heap.size w w3 := HB2.out.trans (hk3.below1 (Nat.le_refl _) (Nat.le_of_lt hsz2))
    have HH3 := Lib.hid (HH.out.below hb3)
    have HB3 := Lib.hid hb3
    have hsz3 : w.heap.size < w3.heap.size := World.block_lt_of_cell? _ _ hc3
    have hp3 : w3.cell? ⟨B, 0, none⟩ = some (.pointer (some ⟨ab, ao, none⟩)) := (hb3.cell (p := ⟨B, 0, none⟩) hB).trans h1
    have hp4 : ∀ v, (w3.setCell ⟨w.heap.size, 0, none⟩ v).cell? ⟨B, 0, none⟩ = some (.pointer (some ⟨ab, ao, none⟩)) := fun v => (World.cell?_setCell_other _ _ _ _ (by intro hc; have := congrArg Addr.block hc; simp at this; omega)).trans hp3
    have ha3 := (HH3.out (ab, ao) HA.out).1
    have haf3 := (HH3.out (ab, ao) HA.out).2
    have haf4 : ∀ v, (w3.setCell ⟨w.heap.size, 0, none⟩ v).frozen? ⟨ab, ao, none⟩ = false := fun v => (World.frozen?_setCell _ _ _ _).trans haf3
    have ha4 : ∀ v, (w3.setCell ⟨w.heap.size, 0, none⟩ v).cell? ⟨ab, ao, none⟩ = some (.int .i64 (σ (ab, ao))) := fun v => (World.cell?_setCell_other _ _ _ _ (by intro hc; have := congrArg Addr.block hc; simp at this; omega)).trans ha3
    have hg4 : ∀ v, (w3.setCell ⟨w.heap.size, 0, none⟩ v).cell? ⟨w.heap.size, 0, none⟩ = some v := fun v => World.cell?_setCell_same _ _ _ hc3'
    clear hc3 hk3 hh3 hb3 hf3 h1 cS
    go_wp2_with fail
  · go_ret2
    rw [HR.out]
    refine ⟨⟨t2, rfl, hl2, hs2⟩, (Lt.of_below HB3.out).trans (Lt.set HA.out _), ?_⟩
    have h5 := HH3.out.set HA.out ((N + 2000 : Nat) : Int)
    rw [show (((N + 2000 : Nat) : Int)) = (N : Int) + 2000 by omega] at h5 ⊢
    exact h5
  · go_ret2
    rw [HR.out]
    have hb4 : Below w.heap.size w (w3.setCell ⟨w.heap.size, 0, none⟩ (.int .i64 ((N : Int) - 100))) := HB3.out.setCell (Nat.le_refl _) _
    refine ⟨⟨t2, rfl, hl2, hs2⟩, (Lt.of_below hb4).trans (Lt.set HA.out _), ?_⟩
    have h5 := (HH.out.below hb4).set HA.out ((N + 1900 : Nat) : Int)
    rw [show (((N + 1900 : Nat) : Int)) = (N : Int) - 100 + 2000 by omega] at h5 ⊢
    exact h5
set_option maxRecDepth 100000 in
theorem shortYear_mk (τ : Tg) (b i : Nat) (ha : (b, i) ∈ τ) (w : World) (hl : Low τ w.heap.size) :
    Calls Tryd.prog 18 #[.pointer (some ⟨b, i, none⟩)] w (MakesP τ w (shortF (b, i))) := by
  unfold MakesP
  go_enter Tryd.func18, Tryd.ntmps18
  go_wp2
  go_ret
  refine ⟨_, _, rfl, ⟨47, #[.pointer (some ⟨w.heap.size, 0, none⟩)], rfl, enters_of Tryd.func47 (by kernel_rfl) rfl, ?_⟩, (Below.refl _ _).alloc (Nat.le_refl _) _⟩
  intro W σ s hL hH hs
  have ho : Off τ w.heap.size := hl.off (Nat.le_refl _)
  exact shortYear1_any τ (b, i) ha _ ho W ((hL.cell (by simp) ho).trans (cell_new1 w _ _)) σ s hH hs
end Go.Proofs.YtpmjlhpbknppiaaDoor
