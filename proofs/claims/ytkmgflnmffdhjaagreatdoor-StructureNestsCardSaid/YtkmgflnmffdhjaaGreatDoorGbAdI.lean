/- Contracts of package addr: what the reader tells. -/
import Derived.Test.YtkmgflnmffdhjaaGreatDoorGbAdG
namespace Go.Proofs.YtkmgflnmffdhjaaGreatDoor
open Go Go.RowKit

def adrC (a : Adr) : List Value := [.int .i64 (a.kind : Int), .string ⟨a.name.toArray⟩, .string ⟨a.loc.toArray⟩, .string ⟨a.host.toArray⟩]
def adrV (a : Adr) : Value := .agg #[.int .i64 (a.kind : Int), .string ⟨a.name.toArray⟩, .string ⟨a.loc.toArray⟩, .string ⟨a.host.toArray⟩]
def adrCells (l : List Adr) : List Value := l.flatMap adrC
theorem adrCells_app (a b : List Adr) : adrCells (a ++ b) = adrCells a ++ adrCells b := by simp [adrCells]
theorem adrCells_one (a : Adr) : adrCells [a] = adrC a := by simp [adrCells]
theorem Tryz.infoAdr : (Tryz.prog.info? 186).map (fun i => (i.zero, i.size, i.bytes)) = some (some (.agg #[.int .i64 0, .string ⟨#[]⟩, .string ⟨#[]⟩, .string ⟨#[]⟩]), 4, 56) := by kernel_rfl

/-- The blocks that are the reader's own: its block, and the row of what it told. -/
def ownR (B : Nat) (W : World) (k : Nat) : Prop := k = B ∨ ∃ u, W.cell? ⟨B, 3, none⟩ = some u ∧ u.ownBlock = some k
/-- All that lay lies al0 it lay, but for the reader's own. -/
structure Kp (B : Nat) (W W' : World) : Prop where
  os : W'.os = W.os
  tape : W'.tape = W.tape
  output : W'.output = W.output
  size : W.heap.size ≤ W'.heap.size
  kept : ∀ k, k < W.heap.size → ¬ ownR B W k → W'.heap[k]? = W.heap[k]? ∧ ¬ ownR B W' k
theorem Kp.refl (B : Nat) (W : World) : Kp B W W := ⟨rfl, rfl, rfl, Nat.le_refl _, fun _ _ h => ⟨rfl, h⟩⟩
theorem Kp.trans {B : Nat} {X Y Z : World} (h : Kp B X Y) (k : Kp B Y Z) : Kp B X Z :=
  ⟨k.os.trans h.os, k.tape.trans h.tape, k.output.trans h.output, Nat.le_trans h.size k.size, fun i hi ho => by
    obtain ⟨e1, e2⟩ := h.kept i hi ho
    obtain ⟨e3, e4⟩ := k.kept i (Nat.lt_of_lt_of_le hi h.size) e2
    exact ⟨e3.trans e1, e4⟩⟩
theorem ownR_same {B : Nat} {W W' : World} (h : W'.cell? ⟨B, 3, none⟩ = W.cell? ⟨B, 3, none⟩) (k : Nat) : ownR B W' k ↔ ownR B W k := by
  unfold ownR
  rw [h]
theorem Kp.grB {B : Nat} {W W' : World} (h : GrB B W W') (hc : W'.cell? ⟨B, 3, none⟩ = W.cell? ⟨B, 3, none⟩) : Kp B W W' :=
  ⟨h.os, h.tape, h.output, h.size, fun k hk ho => ⟨h.block k hk (fun e => ho (.inl (Option.some.inj e))), fun hh => ho ((ownR_same hc k).1 hh)⟩⟩
theorem Rdr.c3 {W : World} {B : Nat} {s : ByteArray} {ts : List Tok} {b : Bool} {tv : Value} (h : Rdr W B s ts b tv) : W.cell? ⟨B, 3, none⟩ = some tv := by
  obtain ⟨k, u, h1, h2⟩ := h
  exact h1.c3
theorem Kp.rdr {B : Nat} {W W' : World} {s : ByteArray} {ts ts' : List Tok} {b b' : Bool} {tv : Value} (h : GrB B W W') (h1 : Rdr W B s ts b tv) (h2 : Rdr W' B s ts' b' tv) : Kp B W W' := .grB h (h2.c3.trans h1.c3.symm)
theorem Kp.grow {B : Nat} {W W' : World} (h : Below W.heap.size W W') (hB : B < W.heap.size) : Kp B W W' :=
  .grB ⟨h.os, h.tape, h.output, h.size, fun k hk _ => h.block k hk⟩ (World.cell?_of_block (a := ⟨B, 3, none⟩) (h.block B hB))
/-- Behind a piece more that was told. -/
theorem Kp.told {B : Nat} {W X Y : World} {tv : Value} {g n cap H : Nat} (hb : Below W.heap.size W X) (hg : X.grownBy Y tv.ownBlock) (hB : B < W.heap.size) (hc : W.cell? ⟨B, 3, none⟩ = some tv) (hne : tv.ownBlock ≠ some B)
    (hor : tv.ownBlock = some g ∨ g = H) (hH : W.heap.size ≤ H) : Kp B W (Y.setCell ⟨B, 3, none⟩ (.slice (some ⟨g, 0, none⟩) n cap)) := by
  refine ⟨hg.os.trans hb.os, hg.tape.trans hb.tape, hg.output.trans hb.output, ?_, ?_⟩
  · have := hb.size
    have := hg.size
    simp
    omega
  · intro k hk ho
    have hkB : k ≠ B := fun e => ho (.inl e)
    have hkt : tv.ownBlock ≠ some k := fun e => ho (.inr ⟨tv, hc, e⟩)
    refine ⟨?_, ?_⟩
    · rw [Below.heap_setCell _ _ _ _ hkB, hg.block k (Nat.lt_of_lt_of_le hk hb.size) (fun e => hkt e.symm), hb.block k hk]
    · rintro (e | ⟨u, hu, hu2⟩)
      · exact hkB e
      · have hYB : Y.cell? ⟨B, 3, none⟩ = some tv := (World.cell?_of_block (a := ⟨B, 3, none⟩) ((hg.block B (Nat.lt_of_lt_of_le hB hb.size) (fun e => hne e.symm)).trans (hb.block B hB))).trans hc
        rw [World.cell?_setCell_same _ _ _ hYB] at hu
        cases hu
        have e : g = k := by simpa [Value.ownBlock] using hu2
        subst e
        rcases hor with h | h
        · exact hkt h
        · omega

/-- A reader and what it told. -/
def St (W : World) (base B : Nat) (s : ByteArray) (ts : List Tok) (b : Bool) (al0 : List Adr) : Prop :=
  ∃ tv, Rdr W B s ts b tv ∧ W.ownsRow base 186 4 tv al0.length (adrCells al0) ∧ tv.ownBlock ≠ some B ∧ base ≤ B
theorem St.lt {W : World} {base B : Nat} {s : ByteArray} {ts : List Tok} {b : Bool} {al0 : List Adr} (h : St W base B s ts b al0) : B < W.heap.size := by
  obtain ⟨tv, h1, h2⟩ := h
  exact h1.lt
theorem St.wt {W : World} {base B : Nat} {s : ByteArray} {ts : List Tok} {b : Bool} {al0 : List Adr} (h : St W base B s ts b al0) : wt ts ≤ 2 * s.size := by
  obtain ⟨tv, h1, h2⟩ := h
  exact h1.wt
theorem St.grow {W W' : World} {base B : Nat} {s : ByteArray} {ts : List Tok} {b : Bool} {al0 : List Adr} (h : St W base B s ts b al0) (hb : Below W.heap.size W W') : St W' base B s ts b al0 := by
  obtain ⟨tv, h1, h2, h3, h4⟩ := h
  exact ⟨tv, h1.below hb, ownsRow_below h2 hb, h3, h4⟩
theorem St.grB {W W' : World} {base B : Nat} {s : ByteArray} {ts' : List Tok} {b' : Bool} {al0 : List Adr} {tv : Value} (hg : GrB B W W') (h2 : W.ownsRow base 186 4 tv al0.length (adrCells al0)) (h3 : tv.ownBlock ≠ some B) (h4 : base ≤ B) (h1 : Rdr W' B s ts' b' tv) : St W' base B s ts' b' al0 :=
  ⟨tv, h1, hg.row h2 h3, h3, h4⟩
theorem St.below {W W' : World} {base B : Nat} {s : ByteArray} {ts : List Tok} {b : Bool} {al0 : List Adr} (h : St W base B s ts b al0) (hk : Kp B W W') : Below base W W' := by
  obtain ⟨tv, h1, h2, h3, h4⟩ := h
  have hlt := h1.lt
  refine ⟨hk.os, hk.tape, hk.output, hk.size, fun k hk1 => (hk.kept k (by omega) ?_).1⟩
  rintro (e | ⟨u, hu, hu2⟩)
  · omega
  · rw [h1.c3] at hu
    cases hu
    have := (h2.lt k hu2).1
    omega

theorem takesS_any (base B : Nat) (s : ByteArray) (ts : List Tok) (b : Bool) (al0 : List Adr) (c : UInt8) (n : Int) (hn : (c.toNat : Int) = n) (w : World) (h : St w base B s ts b al0) (hl : s.size ≤ 1000000000) :
    Calls Tryz.prog 172 #[.pointer (some ⟨B, 0, none⟩), .int .u8 n] w fun e w' => e = .returned (.bool (takesT c ts).1) ∧ St w' base B s (takesT c ts).2 b al0 ∧ Kp B w w' := by
  obtain ⟨tv, h1, h2, h3, h4⟩ := h
  exact (takesA_int B s ts b tv c n hn w h1 hl).mono fun e w' ⟨he, hr, hg⟩ => ⟨he, St.grB hg h2 h3 h4 hr, Kp.rdr hg h1 hr⟩
theorem wordS_any (base B : Nat) (s : ByteArray) (ts : List Tok) (b : Bool) (al0 : List Adr) (w : World) (h : St w base B s ts b al0) (hl : s.size ≤ 1000000000) :
    Calls Tryz.prog 199 #[.pointer (some ⟨B, 0, none⟩)] w fun e w' => e = .returned (wordV (wordT ts).1) ∧ St w' base B s (wordT ts).2 b al0 ∧ Kp B w w' := by
  obtain ⟨tv, h1, h2, h3, h4⟩ := h
  exact (wordA_any B s ts b tv w h1 hl).mono fun e w' ⟨he, hr, hg⟩ => ⟨he, St.grB hg h2 h3 h4 hr, Kp.rdr hg h1 hr⟩
/-- A row of words that is none of the reader's. -/
def Ws (W : World) (B : Nat) (v : Value) (ws : List (List UInt8)) : Prop := W.ownsRow 0 9 1 v ws.length (ws.map wsV) ∧ ∀ k, v.ownBlock = some k → ¬ ownR B W k
theorem Ws.kp {W W' : World} {B : Nat} {v : Value} {ws : List (List UInt8)} (h : Ws W B v ws) (k : Kp B W W') : Ws W' B v ws := by
  obtain ⟨h1, h2⟩ := h
  refine ⟨⟨h1.1, ?_⟩, fun q hq => (k.kept q (h1.lt q hq).2 (h2 q hq)).2⟩
  rcases h1.2 with h0 | ⟨g, cap, cur, rfl, hb, hh, hc⟩
  · exact .inl h0
  · exact .inr ⟨g, cap, cur, rfl, hb, (k.kept g (Array.getElem?_eq_some_iff.1 hh).1 (h2 g rfl)).1.trans hh, hc⟩
theorem wordsS_any (base B : Nat) (s : ByteArray) (ts : List Tok) (b : Bool) (al0 : List Adr) (w : World) (h : St w base B s ts b al0) (hl : s.size ≤ 1000000000) :
    Calls Tryz.prog 173 #[.pointer (some ⟨B, 0, none⟩)] w fun e w' => ∃ v, e = .returned v ∧ Ws w' B v (wordsT ts).1 ∧ St w' base B s (wordsT ts).2 b al0 ∧ Kp B w w' := by
  obtain ⟨tv, h1, h2, h3, h4⟩ := h
  refine (wordsA_any B s ts b tv w h1 hl).mono fun e w' ⟨v, he, ho, hr, hg⟩ => ⟨v, he, ⟨?_, ?_⟩, St.grB hg h2 h3 h4 hr, Kp.rdr hg h1 hr⟩
  · exact own_base ho (Nat.zero_le _)
  · intro k hk
    have hk1 := (ho.lt k hk).1
    rintro (e | ⟨u, hu, hu2⟩)
    · have := h1.lt
      omega
    · rw [hr.c3] at hu
      cases hu
      have := (h2.lt k hu2).2
      omega

set_option maxRecDepth 100000 in
set_option maxHeartbeats 4000000 in
theorem tell_any (base B : Nat) (s : ByteArray) (ts : List Tok) (b : Bool) (al0 : List Adr) (a : Adr) (w : World) (h : St w base B s ts b al0) (hn : al0.length ≤ 1000000000000) :
    Calls Tryz.prog 200 #[.pointer (some ⟨B, 0, none⟩), adrV a] w fun e w' => e = .returned (.tuple #[]) ∧ St w' base B s ts b (al0 ++ [a]) ∧ Kp B w w' := by
  obtain ⟨tv, h1, h2, h3, h4⟩ := h
  obtain ⟨i0, hi0, hz⟩ := Option.map_eq_some_iff.1 Tryz.infoAdr
  simp only [Prod.mk.injEq] at hz
  obtain ⟨hz0, hz1, hz2⟩ := hz
  obtain ⟨k0, u0, hraw, hrest⟩ := h1
  have HREST := Lib.hid hrest
  have HRaw := Lib.hid hraw
  have HO := Lib.hid h2
  have HNE := Lib.hid h3
  have hBlt := hraw.lt
  have C3 := Lib.hid hraw.c3
  clear hraw hrest h2 h3
  obtain ⟨ak, an, al, ah⟩ := a
  unfold adrV
  simp only
  go_enter Tryz.func200, Tryz.ntmps200
  go_wp2_with fail
  obtain ⟨W1, hW1⟩ : ∃ W1, W1 = w.alloc (.cells #[.int .i64 (ak : Int), .string ⟨an.toArray⟩, .string ⟨al.toArray⟩, .string ⟨ah.toArray⟩] 186) := ⟨_, rfl⟩
  have HB1 : Hid (Below w.heap.size w W1) := by rw [hW1]; exact (Below.refl _ _).alloc (Nat.le_refl _) _
  have hsz : W1.heap.size = w.heap.size + 1 := by rw [hW1]; simp
  have hcells : W1.heap[w.heap.size]? = some (.cells #[.int .i64 (ak : Int), .string ⟨an.toArray⟩, .string ⟨al.toArray⟩, .string ⟨ah.toArray⟩] 186 (0, 0)) := by rw [hW1]; exact heap_alloc_new w _
  have d0 : W1.cell? ⟨w.heap.size, 0, none⟩ = some (.int .i64 (ak : Int)) := by simp [World.cell?, hcells]
  have d1 : W1.cell? ⟨w.heap.size, 1, none⟩ = some (.string ⟨an.toArray⟩) := by simp [World.cell?, hcells]
  have d2 : W1.cell? ⟨w.heap.size, 2, none⟩ = some (.string ⟨al.toArray⟩) := by simp [World.cell?, hcells]
  have d3 : W1.cell? ⟨w.heap.size, 3, none⟩ = some (.string ⟨ah.toArray⟩) := by simp [World.cell?, hcells]
  rw [← hW1]
  have HR1 := Lib.hid (HRaw.out.below HB1.out)
  have c3 := HR1.out.c3
  have f3 := HR1.out.f3
  obtain ⟨A, hA⟩ : ∃ A, A = w.heap.size := ⟨_, rfl⟩
  rw [← hA] at d0 d1 d2 d3 hsz ⊢
  have HA := Lib.hid hA
  have hBA : B < A := by omega
  have HOx : Hid (∀ W, Below W1.heap.size W1 W → W.ownsRow base 186 4 tv al0.length (adrCells al0)) := fun W hb => ownsRow_below (ownsRow_below HO.out HB1.out) hb
  have HSx : Hid (∀ W, Below W1.heap.size W1 W → base ≤ W.heap.size) := fun W hb => by have := hb.size; omega
  have HXv : Hid (∀ W W', Below W1.heap.size W1 W → W.grownBy W' tv.ownBlock → Raw W' B s k0 u0 tv) := fun W W' hb hg =>
    (HR1.out.below hb).block (hg.block B (by have := hb.size; omega) (fun e => HNE.out e.symm))
  have HSZ := Lib.hid hsz
  have hBW : B < W1.heap.size := by omega
  have hAW : A < W1.heap.size := by omega
  have hBn : ¬ B = W1.heap.size := by omega
  have hAn : ¬ A = W1.heap.size := by omega
  have e3 : (W1.alloc (.cells #[.int .i64 (ak : Int), .string ⟨an.toArray⟩, .string ⟨al.toArray⟩, .string ⟨ah.toArray⟩] 186)).cell? ⟨B, 3, none⟩ = some tv := ((Below.refl W1.heap.size W1).alloc (Nat.le_refl _) _).cell (p := ⟨B, 3, none⟩) hBW |>.trans c3
  clear hcells hW1 hA hsz
  go_wp2_with fail
  go_region_law ((refine step_append_lies _ (by exact rfl) _ _ 125 (by exact rfl) base 186 i0 (.agg #[.int .i64 0, .string ⟨#[]⟩, .string ⟨#[]⟩, .string ⟨#[]⟩]) 4 56 Tryz.underlying125 hi0 hz0 hz1 hz2 rfl (by decide) _ al0.length (adrCells al0) (by exact rfl) (HOx.out _ (by first | exact (Below.refl _ _).drew | exact (Below.refl _ _).drew.alloc (Nat.le_refl _) _ | exact ((Below.refl _ _).alloc (Nat.le_refl _) _).drew)) ⟨W1.heap.size, 0, none⟩ 1 1 [.int .i64 (ak : Int), .string ⟨an.toArray⟩, .string ⟨al.toArray⟩, .string ⟨ah.toArray⟩] (by exact rfl) rfl (World.news_of_block (cs := #[.int .i64 (ak : Int), .string ⟨an.toArray⟩, .string ⟨al.toArray⟩, .string ⟨ah.toArray⟩]) (heap_alloc_new W1 _)) (by simp [Value.oneCell']) (by decide) (by unfold maxLen; omega) (by omega) (HSx.out _ (by first | exact (Below.refl _ _).drew | exact (Below.refl _ _).drew.alloc (Nat.le_refl _) _ | exact ((Below.refl _ _).alloc (Nat.le_refl _) _).drew)) _ rfl ?_; intro g7 cap7 w7 hown7 hgrow7 hor7 _; have HR7 := Lib.hid (HXv.out _ _ (by first | exact (Below.refl _ _).drew | exact (Below.refl _ _).drew.alloc (Nat.le_refl _) _ | exact ((Below.refl _ _).alloc (Nat.le_refl _) _).drew) hgrow7); have c7 := HR7.out.c3; have f7 := HR7.out.f3))
  all_goals
    have hg7 : g7 ≠ B := by
      intro e
      subst e
      rcases hor7 with h | h
      · exact HNE.out h
      · simp at h
        omega
    have HK := Lib.hid (Kp.told (B := B) (n := al0.length + 1) (cap := cap7) (HB1.out.trans (Below.mono (B := W1.heap.size) (by first | exact (Below.refl _ _).drew.alloc (Nat.le_refl _) _ | exact ((Below.refl _ _).alloc (Nat.le_refl _) _).drew) HB1.out.size)) hgrow7 hBlt C3.out HNE.out hor7 (by have := HA.out; have := HSZ.out; simp; omega))
    have HO8 : Hid ((w7.setCell ⟨B, 3, none⟩ (.slice (some ⟨g7, 0, none⟩) (al0.length + 1) cap7)).ownsRow base 186 4 (.slice (some ⟨g7, 0, none⟩) (al0.length + 1) cap7) (al0.length + 1) (adrCells al0 ++ [.int .i64 (ak : Int), .string ⟨an.toArray⟩, .string ⟨al.toArray⟩, .string ⟨ah.toArray⟩])) := hown7.kept (row := some B) ⟨rfl, rfl, rfl, by simp, fun k _ hk => Below.heap_setCell w7 ⟨B, 3, none⟩ _ k (fun e => hk (by rw [e]))⟩ (.inr (by simpa [Value.ownBlock] using hg7))
    clear hown7 hgrow7 hor7 c7 f7
    go_wp2_with fail
    go_end0
    refine ⟨rfl, ⟨_, ⟨k0, u0, HR7.out.set3 _, HREST.out⟩, wsCast HO8.out (by simp) (by rw [adrCells_app, adrCells_one]; rfl), by simpa [Value.ownBlock] using hg7, h4⟩, HK.out⟩
end Go.Proofs.YtkmgflnmffdhjaaGreatDoor

/- Contracts of package addr: a place, a way, a box. -/
namespace Go.Proofs.YtkmgflnmffdhjaaGreatDoor
open Go Go.RowKit

/-- What a part of the reader's hands back, tells and keeps. -/
def Does (base B : Nat) (s : ByteArray) (b : Bool) (al0 : List Adr) (w : World) (r : Res) : Ending → World → Prop :=
  fun e w' => e = .returned (.bool r.1) ∧ St w' base B s r.2.1 b (al0 ++ r.2.2) ∧ Kp B w w'
theorem Ws.shape {W : World} {B : Nat} {v : Value} {ws : List (List UInt8)} (h : Ws W B v ws) : ∃ ao cap, v = .slice ao ws.length cap := by
  rcases h.1.2 with ⟨rfl, h0⟩ | ⟨g, cap, cur, rfl, _⟩
  · exact ⟨_, _, by rw [h0]⟩
  · exact ⟨_, _, rfl⟩
theorem len_pos (ws : List (List UInt8)) : decide (0 < ws.length) = !ws.isEmpty := by
  cases ws with
  | nil => rfl
  | cons x r => simp
theorem len_zero (ws : List (List UInt8)) : ((ws.length : Int) == 0) = ws.isEmpty := by
  cases ws with
  | nil => rfl
  | cons x r =>
    rw [beq_no (by simp; omega)]
    rfl

theorem tell_box (base B : Nat) (s : ByteArray) (ts : List Tok) (b : Bool) (al0 : List Adr) (nm lo ho : List UInt8) (w : World) (h : St w base B s ts b al0) (hn : al0.length ≤ 1000000000000) :
    Calls Tryz.prog 200 #[.pointer (some ⟨B, 0, none⟩), .agg #[.int .i64 0, .string ⟨nm.toArray⟩, .string ⟨lo.toArray⟩, .string ⟨ho.toArray⟩]] w fun e w' => e = .returned (.tuple #[]) ∧ St w' base B s ts b (al0 ++ [⟨0, nm, lo, ho⟩]) ∧ Kp B w w' := tell_any base B s ts b al0 ⟨0, nm, lo, ho⟩ w h hn
theorem tell_bare (base B : Nat) (s : ByteArray) (ts : List Tok) (b : Bool) (al0 : List Adr) (nm lo : List UInt8) (w : World) (h : St w base B s ts b al0) (hn : al0.length ≤ 1000000000000) :
    Calls Tryz.prog 200 #[.pointer (some ⟨B, 0, none⟩), .agg #[.int .i64 0, .string ⟨nm.toArray⟩, .string ⟨lo.toArray⟩, .string ⟨#[]⟩]] w fun e w' => e = .returned (.tuple #[]) ∧ St w' base B s ts b (al0 ++ [⟨0, nm, lo, []⟩]) ∧ Kp B w w' := tell_any base B s ts b al0 ⟨0, nm, lo, []⟩ w h hn
theorem tell_begin (base B : Nat) (s : ByteArray) (ts : List Tok) (b : Bool) (al0 : List Adr) (nm : List UInt8) (w : World) (h : St w base B s ts b al0) (hn : al0.length ≤ 1000000000000) :
    Calls Tryz.prog 200 #[.pointer (some ⟨B, 0, none⟩), .agg #[.int .i64 1, .string ⟨nm.toArray⟩, .string ⟨#[]⟩, .string ⟨#[]⟩]] w fun e w' => e = .returned (.tuple #[]) ∧ St w' base B s ts b (al0 ++ [⟨1, nm, [], []⟩]) ∧ Kp B w w' := tell_any base B s ts b al0 ⟨1, nm, [], []⟩ w h hn
theorem tell_end (base B : Nat) (s : ByteArray) (ts : List Tok) (b : Bool) (al0 : List Adr) (w : World) (h : St w base B s ts b al0) (hn : al0.length ≤ 1000000000000) :
    Calls Tryz.prog 200 #[.pointer (some ⟨B, 0, none⟩), .agg #[.int .i64 2, .string ⟨#[]⟩, .string ⟨#[]⟩, .string ⟨#[]⟩]] w fun e w' => e = .returned (.tuple #[]) ∧ St w' base B s ts b (al0 ++ [⟨2, [], [], []⟩]) ∧ Kp B w w' := tell_any base B s ts b al0 ⟨2, [], [], []⟩ w h hn

set_option maxRecDepth 100000 in
set_option maxHeartbeats 2000000 in
theorem place_any (base B : Nat) (s : ByteArray) (ts : List Tok) (b : Bool) (al0 : List Adr) (name : List UInt8) (v : Value) (ws : List (List UInt8)) (w : World) (h : St w base B s ts b al0) (hv : Ws w B v ws) (hw : wsW ws ≤ 4000000000) (hl : s.size ≤ 1000000000) (hn : al0.length ≤ 1000000000000) :
    Calls Tryz.prog 204 #[.pointer (some ⟨B, 0, none⟩), .string ⟨name.toArray⟩, v] w (Does base B s b al0 w (placeT name ws ts)) := by
  unfold Does
  obtain ⟨ao, cap, rfl⟩ := hv.shape
  have HT := Lib.hid (takesS_any base B s ts b al0 64 64 rfl w h hl)
  have HWd := Lib.hid (fun ts W h => wordS_any base B s ts b al0 W h hl)
  have HJ := Lib.hid (fun W (h : Ws W B (.slice ao ws.length cap) ws) => joinA_any _ ws ⟨#[]⟩ 0 W h.1 hw (by decide))
  have HTe := Lib.hid (fun ts x W h => tell_box base B s ts b al0 name (Lib.join ws []) x W h hn)
  have HTb := Lib.hid (fun ts W h => tell_bare base B s ts b al0 name (Lib.join ws []) W h hn)
  have HV := Lib.hid hv
  clear h hv
  rcases hx : takesT 64 ts with ⟨b1, t1⟩
  rw [hx] at HT
  cases b1 with
  | false =>
    have HP : Hid (placeT name ws ts = (!ws.isEmpty, t1, [⟨0, name, Lib.join ws [], []⟩])) := by unfold Hid placeT hostT; rw [hx]; simp
    clear hx
    go_enter Tryz.func204, Tryz.ntmps204
    go_wp2_with fail
    with_reducible refine HT.out.mono ?_
    rintro e w1 ⟨rfl, hs1, hk1⟩
    have HS1 := Lib.hid hs1
    have HK1 := Lib.hid hk1
    have HV1 := Lib.hid (HV.out.kp hk1)
    clear hs1 hk1 HT
    go_wp2_with fail
    with_reducible refine (HJ.out _ HV1.out).mono ?_
    rintro e w2 ⟨rfl, hb2⟩
    have HS2 := Lib.hid (HS1.out.grow hb2)
    have HK2 := Lib.hid (HK1.out.trans (Kp.grow hb2 HS1.out.lt))
    clear hb2
    go_wp2_with fail
    with_reducible refine (HTb.out t1 _ HS2.out).mono ?_
    rintro e w3 ⟨rfl, hs3, hk3⟩
    have HS3 := Lib.hid hs3
    have HK3 := Lib.hid (HK2.out.trans hk3)
    clear hs3 hk3
    go_wp2_with fail
    go_ret
    rw [HP.out]
    exact ⟨ret_bool (len_pos ws), HS3.out, HK3.out⟩
  | true =>
    rcases hy : wordT t1 with ⟨o, t2⟩
    have HWd1 := Lib.hid (fun W h => HWd.out t1 W h)
    rw [hy] at HWd1
    cases o with
    | none =>
      have HP : Hid (placeT name ws ts = (false, t2, [⟨0, name, Lib.join ws [], []⟩])) := by unfold Hid placeT hostT; rw [hx]; simp only [hy]; simp
      clear hx hy
      go_enter Tryz.func204, Tryz.ntmps204
      go_wp2_with fail
      with_reducible refine HT.out.mono ?_
      rintro e w0 ⟨rfl, hs0, hk0⟩
      have HS0 := Lib.hid hs0
      have HK0 := Lib.hid hk0
      have HV0 := Lib.hid (HV.out.kp hk0)
      clear hs0 hk0 HT
      go_wp2_with fail
      with_reducible refine (HWd1.out _ HS0.out).mono ?_
      rintro e w1 ⟨rfl, hs1, hk1⟩
      have HS1 := Lib.hid hs1
      have HK1 := Lib.hid (HK0.out.trans hk1)
      have HV1 := Lib.hid (HV0.out.kp hk1)
      clear hs1 hk1
      unfold wordV
      go_wp2_with fail
      with_reducible refine (HJ.out _ HV1.out).mono ?_
      rintro e w2 ⟨rfl, hb2⟩
      have HS2 := Lib.hid (HS1.out.grow hb2)
      have HK2 := Lib.hid (HK1.out.trans (Kp.grow hb2 HS1.out.lt))
      clear hb2
      go_wp2_with fail
      with_reducible refine (HTb.out t2 _ HS2.out).mono ?_
      rintro e w3 ⟨rfl, hs3, hk3⟩
      have HS3 := Lib.hid hs3
      have HK3 := Lib.hid (HK2.out.trans hk3)
      clear hs3 hk3
      go_wp2_with fail
      go_ret
      rw [HP.out]
      exact ⟨rfl, HS3.out, HK3.out⟩
    | some x =>
      have HP : Hid (placeT name ws ts = (!ws.isEmpty, t2, [⟨0, name, Lib.join ws [], x⟩])) := by unfold Hid placeT hostT; rw [hx]; simp only [hy]; simp
      clear hx hy
      go_enter Tryz.func204, Tryz.ntmps204
      go_wp2_with fail
      with_reducible refine HT.out.mono ?_
      rintro e w0 ⟨rfl, hs0, hk0⟩
      have HS0 := Lib.hid hs0
      have HK0 := Lib.hid hk0
      have HV0 := Lib.hid (HV.out.kp hk0)
      clear hs0 hk0 HT
      go_wp2_with fail
      with_reducible refine (HWd1.out _ HS0.out).mono ?_
      rintro e w1 ⟨rfl, hs1, hk1⟩
      have HS1 := Lib.hid hs1
      have HK1 := Lib.hid (HK0.out.trans hk1)
      have HV1 := Lib.hid (HV0.out.kp hk1)
      clear hs1 hk1
      unfold wordV
      go_wp2_with fail
      with_reducible refine (HJ.out _ HV1.out).mono ?_
      rintro e w2 ⟨rfl, hb2⟩
      have HS2 := Lib.hid (HS1.out.grow hb2)
      have HK2 := Lib.hid (HK1.out.trans (Kp.grow hb2 HS1.out.lt))
      clear hb2
      go_wp2_with fail
      with_reducible refine (HTe.out t2 x _ HS2.out).mono ?_
      rintro e w3 ⟨rfl, hs3, hk3⟩
      have HS3 := Lib.hid hs3
      have HK3 := Lib.hid (HK2.out.trans hk3)
      clear hs3 hk3
      go_wp2_with fail
      go_ret
      rw [HP.out]
      exact ⟨ret_bool (len_pos ws), HS3.out, HK3.out⟩

set_option maxRecDepth 100000 in
set_option maxHeartbeats 2000000 in
theorem way_any (base B : Nat) (s : ByteArray) (ts : List Tok) (b : Bool) (al0 : List Adr) (w : World) (h : St w base B s ts b al0) (hl : s.size ≤ 1000000000) :
    Calls Tryz.prog 203 #[.pointer (some ⟨B, 0, none⟩)] w fun e w' => e = .returned (.bool (wayT ts).1) ∧ St w' base B s (wayT ts).2 b al0 ∧ Kp B w w' := by
  have HT := Lib.hid (takesS_any base B s ts b al0 64 64 rfl w h hl)
  have HWd := Lib.hid (fun ts W h => wordS_any base B s ts b al0 W h hl)
  have HT64 := Lib.hid (fun ts W h => takesS_any base B s ts b al0 64 64 rfl W h hl)
  have HT44 := Lib.hid (fun ts W h => takesS_any base B s ts b al0 44 44 rfl W h hl)
  have HT58 := Lib.hid (fun ts W h => takesS_any base B s ts b al0 58 58 rfl W h hl)
  clear h
  rcases hx : takesT 64 ts with ⟨b1, t1⟩
  rw [hx] at HT
  cases b1 with
  | false =>
    have HP : Hid (wayT ts = (true, t1)) := by unfold Hid wayT; rw [hx]
    clear hx
    go_enter Tryz.func203, Tryz.ntmps203
    go_wp2_with fail
    with_reducible refine HT.out.mono ?_
    rintro e w1 ⟨rfl, hs1, hk1⟩
    have HS1 := Lib.hid hs1
    have HK1 := Lib.hid hk1
    clear hs1 hk1 HT
    go_wp2_with fail
    go_ret
    rw [HP.out]
    exact ⟨rfl, HS1.out, HK1.out⟩
  | true =>
    have HP : Hid (wayT ts = wayL (t1.length + 1) t1) := by unfold Hid wayT; rw [hx]
    clear hx
    go_enter Tryz.func203, Tryz.ntmps203
    go_wp2_with fail
    with_reducible refine HT.out.mono ?_
    rintro e w1 ⟨rfl, hs1, hk1⟩
    have HS1 := Lib.hid hs1
    have HK1 := Lib.hid hk1
    clear hs1 hk1 HT
    go_wp2_with fail
    go_loopg [3] (t1.length + 1) (fun g v3 wr => ∃ (m : Bool) (t2 : List Tok), g = t2.length + (if m then 1 else 0) ∧ v3 = .bool m ∧ Hid (St wr base B s t2 b al0) ∧ Hid (Kp B w wr) ∧
      Hid (m = true → ∃ n, t2.length < n ∧ wayT ts = wayL n t2) ∧ Hid (m = false → wayT ts = takesT 58 t2))
    case atStart => exact ⟨true, t1, by simp, rfl, HS1.out, HK1.out, fun _ => ⟨t1.length + 1, by omega, HP.out⟩, fun h => by cases h⟩
    case round =>
      obtain ⟨m, t2, rfl, rfl, HS, HK, HM1, HM2⟩ := hrel
      cases m with
      | false =>
        have HE := Lib.hid (HM2.out rfl)
        have HX := Lib.hid (HT58.out t2 wr HS.out)
        clear HM1 HM2
        go_wp2_with fail
        with_reducible refine HX.out.mono ?_
        rintro e w2 ⟨rfl, hs2, hk2⟩
        have HS2 := Lib.hid hs2
        have HK2 := Lib.hid (HK.out.trans hk2)
        clear hs2 hk2
        go_wp2_with fail
        go_ret
        rw [HE.out]
        exact ⟨rfl, HS2.out, HK2.out⟩
      | true =>
        obtain ⟨n, hn, he⟩ := HM1.out rfl
        obtain ⟨n, rfl⟩ : ∃ n', n = n' + 1 := ⟨n - 1, by omega⟩
        have HE := Lib.hid he
        have HX := Lib.hid (HWd.out t2 wr HS.out)
        have hlen := wordT_len t2
        clear HM1 HM2 he
        rcases hy : wordT t2 with ⟨o, t3⟩
        rw [hy] at HX hlen
        cases o with
        | none =>
          have HE2 : Hid (wayL (n + 1) t2 = (false, t3)) := by unfold Hid wayL; rw [hy]
          clear hy hlen
          go_wp2_with fail
          with_reducible refine HX.out.mono ?_
          rintro e w2 ⟨rfl, hs2, hk2⟩
          have HS2 := Lib.hid hs2
          have HK2 := Lib.hid (HK.out.trans hk2)
          clear hs2 hk2
          unfold wordV
          go_wp2_with fail
          go_ret
          rw [HE.out, HE2.out]
          exact ⟨rfl, HS2.out, HK2.out⟩
        | some x =>
          have hlen3 : t3.length + 1 = t2.length := by simpa using hlen
          have h44 := takesT_le 44 t3
          have h64 := takesT_len 64 (takesT 44 t3).2
          have HE2 : Hid (wayL (n + 1) t2 = match takesT 64 (takesT 44 t3).2 with
            | (true, t4) => wayL n t4
            | (false, t4) => takesT 58 t4) := by
              unfold Hid
              rw [wayL]
              rw [hy]
              rcases hq : takesT 64 (takesT 44 t3).2 with ⟨q, t9⟩
              cases q <;> simp only [hq]
          clear hy hlen
          go_wp2_with fail
          with_reducible refine HX.out.mono ?_
          rintro e w2 ⟨rfl, hs2, hk2⟩
          have HS2 := Lib.hid hs2
          have HK2 := Lib.hid (HK.out.trans hk2)
          have HX44 := Lib.hid (HT44.out t3 w2 hs2)
          clear hs2 hk2
          unfold wordV
          go_wp2_with fail
          with_reducible refine HX44.out.mono ?_
          rintro e w3 ⟨rfl, hs3, hk3⟩
          have HS3 := Lib.hid hs3
          have HK3 := Lib.hid (HK2.out.trans hk3)
          have HX64 := Lib.hid (HT64.out _ w3 hs3)
          clear hs3 hk3
          go_wp2_with fail
          with_reducible refine HX64.out.mono ?_
          rintro e w4 ⟨rfl, hs4, hk4⟩
          have HS4 := Lib.hid hs4
          have HK4 := Lib.hid (HK3.out.trans hk4)
          clear hs4 hk4
          rcases hz : takesT 64 (takesT 44 t3).2 with ⟨m4, t4⟩
          rw [hz] at h64 HE2 HS4
          have HM4 : Hid (m4 = true → ∃ n, t4.length < n ∧ wayT ts = wayL n t4) := by
            rintro rfl
            refine ⟨n, ?_, ?_⟩
            · simp at h64
              omega
            · rw [HE.out, HE2.out]
          have HM5 : Hid (m4 = false → wayT ts = takesT 58 t4) := by
            rintro rfl
            rw [HE.out, HE2.out]
          clear HE HE2 hz
          go_wp2_with fail
          go_roundg (t4.length + (if m4 then 1 else 0))
          case measure =>
            show t4.length + _ < t2.length + 1
            have h64' : t4.length + (if m4 = true then 1 else 0) = (takesT 44 t3).2.length := h64
            omega
          case rel => exact ⟨m4, t4, rfl, rfl, HS4.out, HK4.out, HM4.out, HM5.out⟩
end Go.Proofs.YtkmgflnmffdhjaaGreatDoor
