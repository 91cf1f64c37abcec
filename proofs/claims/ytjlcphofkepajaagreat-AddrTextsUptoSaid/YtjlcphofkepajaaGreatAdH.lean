/- Contracts of package addr: what the reader tells. -/
import Derived.Test.YtjlcphofkepajaaGreatAdG
namespace Go.Proofs.YtjlcphofkepajaaGreat
open Go Go.RowKit

def adrC (a : Adr) : List Value := [.int .i64 (a.kind : Int), .string ⟨a.name.toArray⟩, .string ⟨a.loc.toArray⟩, .string ⟨a.host.toArray⟩]
def adrV (a : Adr) : Value := .agg #[.int .i64 (a.kind : Int), .string ⟨a.name.toArray⟩, .string ⟨a.loc.toArray⟩, .string ⟨a.host.toArray⟩]
def adrCells (l : List Adr) : List Value := l.flatMap adrC
theorem adrCells_app (a b : List Adr) : adrCells (a ++ b) = adrCells a ++ adrCells b := by simp [adrCells]
theorem adrCells_one (a : Adr) : adrCells [a] = adrC a := by simp [adrCells]
theorem Tryz.infoAdr : (Tryz.prog.info? 26).map (fun i => (i.zero, i.size, i.bytes)) = some (some (.agg #[.int .i64 0, .string ⟨#[]⟩, .string ⟨#[]⟩, .string ⟨#[]⟩]), 4, 56) := by kernel_rfl

/-- The blocks that are the reader's own: its block, and the row of what it told. -/
def ownR (B : Nat) (W : World) (k : Nat) : Prop := k = B ∨ ∃ u, W.cell? ⟨B, 3, none⟩ = some u ∧ u.ownBlock = some k
/-- All that lay lies al0 it lay, but for the reader's own. -/
structure Kp (B : Nat) (W W' : World) : Prop where
  os : W'.os = W.os
  tape : W'.tape = W.tape
  output : W'.output = W.output
  size : W.heap.size ≤ W'.heap.size
  kept : ∀ k, k < W.heap.size → ¬ ownR B W k → W'.heap[k]? = W.heap[k]? ∧ ¬ ownR B W' k
theorem Kp.refl (B : Nat) (W : World) : Kp B W W := ⟨rfl, rfl, rfl, Nat.le_refl _, fun _ _ h => ⟨rfl, h⟩⟩
theorem Kp.trans {B : Nat} {X Y Z : World} (h : Kp B X Y) (k : Kp B Y Z) : Kp B X Z :=
  ⟨k.os.trans h.os, k.tape.trans h.tape, k.output.trans h.output, Nat.le_trans h.size k.size, fun i hi ho => by
    obtain ⟨e1, e2⟩ := h.kept i hi ho
    obtain ⟨e3, e4⟩ := k.kept i (Nat.lt_of_lt_of_le hi h.size) e2
    exact ⟨e3.trans e1, e4⟩⟩
theorem ownR_same {B : Nat} {W W' : World} (h : W'.cell? ⟨B, 3, none⟩ = W.cell? ⟨B, 3, none⟩) (k : Nat) : ownR B W' k ↔ ownR B W k := by
  unfold ownR
  rw [h]
theorem Kp.grB {B : Nat} {W W' : World} (h : GrB B W W') (hc : W'.cell? ⟨B, 3, none⟩ = W.cell? ⟨B, 3, none⟩) : Kp B W W' :=
  ⟨h.os, h.tape, h.output, h.size, fun k hk ho => ⟨h.block k hk (fun e => ho (.inl (Option.some.inj e))), fun hh => ho ((ownR_same hc k).1 hh)⟩⟩
theorem Rdr.c3 {W : World} {B : Nat} {s : ByteArray} {ts : List Tok} {b : Bool} {tv : Value} (h : Rdr W B s ts b tv) : W.cell? ⟨B, 3, none⟩ = some tv := by
  obtain ⟨k, u, h1, h2⟩ := h
  exact h1.c3
theorem Kp.rdr {B : Nat} {W W' : World} {s : ByteArray} {ts ts' : List Tok} {b b' : Bool} {tv : Value} (h : GrB B W W') (h1 : Rdr W B s ts b tv) (h2 : Rdr W' B s ts' b' tv) : Kp B W W' := .grB h (h2.c3.trans h1.c3.symm)
theorem Kp.grow {B : Nat} {W W' : World} (h : Below W.heap.size W W') (hB : B < W.heap.size) : Kp B W W' :=
  .grB ⟨h.os, h.tape, h.output, h.size, fun k hk _ => h.block k hk⟩ (World.cell?_of_block (a := ⟨B, 3, none⟩) (h.block B hB))
/-- Behind a piece more that was told. -/
theorem Kp.told {B : Nat} {W X Y : World} {tv : Value} {g n cap H : Nat} (hb : Below W.heap.size W X) (hg : X.grownBy Y tv.ownBlock) (hB : B < W.heap.size) (hc : W.cell? ⟨B, 3, none⟩ = some tv) (hne : tv.ownBlock ≠ some B)
    (hor : tv.ownBlock = some g ∨ g = H) (hH : W.heap.size ≤ H) : Kp B W (Y.setCell ⟨B, 3, none⟩ (.slice (some ⟨g, 0, none⟩) n cap)) := by
  refine ⟨hg.os.trans hb.os, hg.tape.trans hb.tape, hg.output.trans hb.output, ?_, ?_⟩
  · have := hb.size
    have := hg.size
    simp
    omega
  · intro k hk ho
    have hkB : k ≠ B := fun e => ho (.inl e)
    have hkt : tv.ownBlock ≠ some k := fun e => ho (.inr ⟨tv, hc, e⟩)
    refine ⟨?_, ?_⟩
    · rw [Below.heap_setCell _ _ _ _ hkB, hg.block k (Nat.lt_of_lt_of_le hk hb.size) (fun e => hkt e.symm), hb.block k hk]
    · rintro (e | ⟨u, hu, hu2⟩)
      · exact hkB e
      · have hYB : Y.cell? ⟨B, 3, none⟩ = some tv := (World.cell?_of_block (a := ⟨B, 3, none⟩) ((hg.block B (Nat.lt_of_lt_of_le hB hb.size) (fun e => hne e.symm)).trans (hb.block B hB))).trans hc
        rw [World.cell?_setCell_same _ _ _ hYB] at hu
        cases hu
        have e : g = k := by simpa [Value.ownBlock] using hu2
        subst e
        rcases hor with h | h
        · exact hkt h
        · omega

/-- A reader and what it told. -/
def St (W : World) (base B : Nat) (s : ByteArray) (ts : List Tok) (b : Bool) (al0 : List Adr) : Prop :=
  ∃ tv, Rdr W B s ts b tv ∧ W.ownsRow base 26 4 tv al0.length (adrCells al0) ∧ tv.ownBlock ≠ some B ∧ base ≤ B
theorem St.lt {W : World} {base B : Nat} {s : ByteArray} {ts : List Tok} {b : Bool} {al0 : List Adr} (h : St W base B s ts b al0) : B < W.heap.size := by
  obtain ⟨tv, h1, h2⟩ := h
  exact h1.lt
theorem St.wt {W : World} {base B : Nat} {s : ByteArray} {ts : List Tok} {b : Bool} {al0 : List Adr} (h : St W base B s ts b al0) : wt ts ≤ 2 * s.size := by
  obtain ⟨tv, h1, h2⟩ := h
  exact h1.wt
theorem St.grow {W W' : World} {base B : Nat} {s : ByteArray} {ts : List Tok} {b : Bool} {al0 : List Adr} (h : St W base B s ts b al0) (hb : Below W.heap.size W W') : St W' base B s ts b al0 := by
  obtain ⟨tv, h1, h2, h3, h4⟩ := h
  exact ⟨tv, h1.below hb, ownsRow_below h2 hb, h3, h4⟩
theorem St.grB {W W' : World} {base B : Nat} {s : ByteArray} {ts' : List Tok} {b' : Bool} {al0 : List Adr} {tv : Value} (hg : GrB B W W') (h2 : W.ownsRow base 26 4 tv al0.length (adrCells al0)) (h3 : tv.ownBlock ≠ some B) (h4 : base ≤ B) (h1 : Rdr W' B s ts' b' tv) : St W' base B s ts' b' al0 :=
  ⟨tv, h1, hg.row h2 h3, h3, h4⟩
theorem St.below {W W' : World} {base B : Nat} {s : ByteArray} {ts : List Tok} {b : Bool} {al0 : List Adr} (h : St W base B s ts b al0) (hk : Kp B W W') : Below base W W' := by
  obtain ⟨tv, h1, h2, h3, h4⟩ := h
  have hlt := h1.lt
  refine ⟨hk.os, hk.tape, hk.output, hk.size, fun k hk1 => (hk.kept k (by omega) ?_).1⟩
  rintro (e | ⟨u, hu, hu2⟩)
  · omega
  · rw [h1.c3] at hu
    cases hu
    have := (h2.lt k hu2).1
    omega

theorem takesS_any (base B : Nat) (s : ByteArray) (ts : List Tok) (b : Bool) (al0 : List Adr) (c : UInt8) (n : Int) (hn : (c.toNat : Int) = n) (w : World) (h : St w base B s ts b al0) (hl : s.size ≤ 1000000000) :
    Calls Tryz.prog 22 #[.pointer (some ⟨B, 0, none⟩), .int .u8 n] w fun e w' => e = .returned (.bool (takesT c ts).1) ∧ St w' base B s (takesT c ts).2 b al0 ∧ Kp B w w' := by
  obtain ⟨tv, h1, h2, h3, h4⟩ := h
  exact (takesA_int B s ts b tv c n hn w h1 hl).mono fun e w' ⟨he, hr, hg⟩ => ⟨he, St.grB hg h2 h3 h4 hr, Kp.rdr hg h1 hr⟩
theorem wordS_any (base B : Nat) (s : ByteArray) (ts : List Tok) (b : Bool) (al0 : List Adr) (w : World) (h : St w base B s ts b al0) (hl : s.size ≤ 1000000000) :
    Calls Tryz.prog 33 #[.pointer (some ⟨B, 0, none⟩)] w fun e w' => e = .returned (wordV (wordT ts).1) ∧ St w' base B s (wordT ts).2 b al0 ∧ Kp B w w' := by
  obtain ⟨tv, h1, h2, h3, h4⟩ := h
  exact (wordA_any B s ts b tv w h1 hl).mono fun e w' ⟨he, hr, hg⟩ => ⟨he, St.grB hg h2 h3 h4 hr, Kp.rdr hg h1 hr⟩
/-- A row of words that is none of the reader's. -/
def Ws (W : World) (B : Nat) (v : Value) (ws : List (List UInt8)) : Prop := W.ownsRow 0 9 1 v ws.length (ws.map wsV) ∧ ∀ k, v.ownBlock = some k → ¬ ownR B W k
theorem Ws.kp {W W' : World} {B : Nat} {v : Value} {ws : List (List UInt8)} (h : Ws W B v ws) (k : Kp B W W') : Ws W' B v ws := by
  obtain ⟨h1, h2⟩ := h
  refine ⟨⟨h1.1, ?_⟩, fun q hq => (k.kept q (h1.lt q hq).2 (h2 q hq)).2⟩
  rcases h1.2 with h0 | ⟨g, cap, cur, rfl, hb, hh, hc⟩
  · exact .inl h0
  · exact .inr ⟨g, cap, cur, rfl, hb, (k.kept g (Array.getElem?_eq_some_iff.1 hh).1 (h2 g rfl)).1.trans hh, hc⟩
theorem wordsS_any (base B : Nat) (s : ByteArray) (ts : List Tok) (b : Bool) (al0 : List Adr) (w : World) (h : St w base B s ts b al0) (hl : s.size ≤ 1000000000) :
    Calls Tryz.prog 23 #[.pointer (some ⟨B, 0, none⟩)] w fun e w' => ∃ v, e = .returned v ∧ Ws w' B v (wordsT ts).1 ∧ St w' base B s (wordsT ts).2 b al0 ∧ Kp B w w' := by
  obtain ⟨tv, h1, h2, h3, h4⟩ := h
  refine (wordsA_any B s ts b tv w h1 hl).mono fun e w' ⟨v, he, ho, hr, hg⟩ => ⟨v, he, ⟨?_, ?_⟩, St.grB hg h2 h3 h4 hr, Kp.rdr hg h1 hr⟩
  · exact own_base ho (Nat.zero_le _)
  · intro k hk
    have hk1 := (ho.lt k hk).1
    rintro (e | ⟨u, hu, hu2⟩)
    · have := h1.lt
      omega
    · rw [hr.c3] at hu
      cases hu
      have := (h2.lt k hu2).2
      omega

set_option maxRecDepth 100000 in
set_option maxHeartbeats 4000000 in
theorem tell_any (base B : Nat) (s : ByteArray) (ts : List Tok) (b : Bool) (al0 : List Adr) (a : Adr) (w : World) (h : St w base B s ts b al0) (hn : al0.length ≤ 1000000000000) :
    Calls Tryz.prog 34 #[.pointer (some ⟨B, 0, none⟩), adrV a] w fun e w' => e = .returned (.tuple #[]) ∧ St w' base B s ts b (al0 ++ [a]) ∧ Kp B w w' := by
  obtain ⟨tv, h1, h2, h3, h4⟩ := h
  obtain ⟨i0, hi0, hz⟩ := Option.map_eq_some_iff.1 Tryz.infoAdr
  simp only [Prod.mk.injEq] at hz
  obtain ⟨hz0, hz1, hz2⟩ := hz
  obtain ⟨k0, u0, hraw, hrest⟩ := h1
  have HREST := Lib.hid hrest
  have HRaw := Lib.hid hraw
  have HO := Lib.hid h2
  have HNE := Lib.hid h3
  have hBlt := hraw.lt
  have C3 := Lib.hid hraw.c3
  clear hraw hrest h2 h3
  obtain ⟨ak, an, al, ah⟩ := a
  unfold adrV
  simp only
  go_enter Tryz.func34, Tryz.ntmps34
  go_wp2_with fail
  obtain ⟨W1, hW1⟩ : ∃ W1, W1 = w.alloc (.cells #[.int .i64 (ak : Int), .string ⟨an.toArray⟩, .string ⟨al.toArray⟩, .string ⟨ah.toArray⟩] 26) := ⟨_, rfl⟩
  have HB1 : Hid (Below w.heap.size w W1) := by rw [hW1]; exact (Below.refl _ _).alloc (Nat.le_refl _) _
  have hsz : W1.heap.size = w.heap.size + 1 := by rw [hW1]; simp
  have hcells : W1.heap[w.heap.size]? = some (.cells #[.int .i64 (ak : Int), .string ⟨an.toArray⟩, .string ⟨al.toArray⟩, .string ⟨ah.toArray⟩] 26 (0, 0)) := by rw [hW1]; exact heap_alloc_new w _
  have d0 : W1.cell? ⟨w.heap.size, 0, none⟩ = some (.int .i64 (ak : Int)) := by simp [World.cell?, hcells]
  have d1 : W1.cell? ⟨w.heap.size, 1, none⟩ = some (.string ⟨an.toArray⟩) := by simp [World.cell?, hcells]
  have d2 : W1.cell? ⟨w.heap.size, 2, none⟩ = some (.string ⟨al.toArray⟩) := by simp [World.cell?, hcells]
  have d3 : W1.cell? ⟨w.heap.size, 3, none⟩ = some (.string ⟨ah.toArray⟩) := by simp [World.cell?, hcells]
  rw [← hW1]
  have HR1 := Lib.hid (HRaw.out.below HB1.out)
  have c3 := HR1.out.c3
  have f3 := HR1.out.f3
  obtain ⟨A, hA⟩ : ∃ A, A = w.heap.size := ⟨_, rfl⟩
  rw [← hA] at d0 d1 d2 d3 hsz ⊢
  have HA := Lib.hid hA
  have hBA : B < A := by omega
  have HOx : Hid (∀ W, Below W1.heap.size W1 W → W.ownsRow base 26 4 tv al0.length (adrCells al0)) := fun W hb => ownsRow_below (ownsRow_below HO.out HB1.out) hb
  have HSx : Hid (∀ W, Below W1.heap.size W1 W → base ≤ W.heap.size) := fun W hb => by have := hb.size; omega
  have HXv : Hid (∀ W W', Below W1.heap.size W1 W → W.grownBy W' tv.ownBlock → Raw W' B s k0 u0 tv) := fun W W' hb hg =>
    (HR1.out.below hb).block (hg.block B (by have := hb.size; omega) (fun e => HNE.out e.symm))
  have HSZ := Lib.hid hsz
  have hBW : B < W1.heap.size := by omega
  have hAW : A < W1.heap.size := by omega
  have hBn : ¬ B = W1.heap.size := by omega
  have hAn : ¬ A = W1.heap.size := by omega
  have e3 : (W1.alloc (.cells #[.int .i64 (ak : Int), .string ⟨an.toArray⟩, .string ⟨al.toArray⟩, .string ⟨ah.toArray⟩] 26)).cell? ⟨B, 3, none⟩ = some tv := ((Below.refl W1.heap.size W1).alloc (Nat.le_refl _) _).cell (p := ⟨B, 3, none⟩) hBW |>.trans c3
  clear hcells hW1 hA hsz
  go_wp2_with fail
  go_region_law ((refine step_append_lies _ (by exact rfl) _ _ 22 (by exact rfl) base 26 i0 (.agg #[.int .i64 0, .string ⟨#[]⟩, .string ⟨#[]⟩, .string ⟨#[]⟩]) 4 56 Tryz.underlying22 hi0 hz0 hz1 hz2 rfl (by decide) _ al0.length (adrCells al0) (by exact rfl) (HOx.out _ (by first | exact (Below.refl _ _).drew | exact (Below.refl _ _).drew.alloc (Nat.le_refl _) _ | exact ((Below.refl _ _).alloc (Nat.le_refl _) _).drew)) ⟨W1.heap.size, 0, none⟩ 1 1 [.int .i64 (ak : Int), .string ⟨an.toArray⟩, .string ⟨al.toArray⟩, .string ⟨ah.toArray⟩] (by exact rfl) rfl (World.news_of_block (cs := #[.int .i64 (ak : Int), .string ⟨an.toArray⟩, .string ⟨al.toArray⟩, .string ⟨ah.toArray⟩]) (heap_alloc_new W1 _)) (by simp [Value.oneCell']) (by decide) (by unfold maxLen; omega) (by omega) (HSx.out _ (by first | exact (Below.refl _ _).drew | exact (Below.refl _ _).drew.alloc (Nat.le_refl _) _ | exact ((Below.refl _ _).alloc (Nat.le_refl _) _).drew)) _ rfl ?_; intro g7 cap7 w7 hown7 hgrow7 hor7 _; have HR7 := Lib.hid (HXv.out _ _ (by first | exact (Below.refl _ _).drew | exact (Below.refl _ _).drew.alloc (Nat.le_refl _) _ | exact ((Below.refl _ _).alloc (Nat.le_refl _) _).drew) hgrow7); have c7 := HR7.out.c3; have f7 := HR7.out.f3))
  all_goals
    have hg7 : g7 ≠ B := by
      intro e
      subst e
      rcases hor7 with h | h
      · exact HNE.out h
      · simp at h
        omega
    have HK := Lib.hid (Kp.told (B := B) (n := al0.length + 1) (cap := cap7) (HB1.out.trans (Below.mono (B := W1.heap.size) (by first | exact (Below.refl _ _).drew.alloc (Nat.le_refl _) _ | exact ((Below.refl _ _).alloc (Nat.le_refl _) _).drew) HB1.out.size)) hgrow7 hBlt C3.out HNE.out hor7 (by have := HA.out; have := HSZ.out; simp; omega))
    have HO8 : Hid ((w7.setCell ⟨B, 3, none⟩ (.slice (some ⟨g7, 0, none⟩) (al0.length + 1) cap7)).ownsRow base 26 4 (.slice (some ⟨g7, 0, none⟩) (al0.length + 1) cap7) (al0.length + 1) (adrCells al0 ++ [.int .i64 (ak : Int), .string ⟨an.toArray⟩, .string ⟨al.toArray⟩, .string ⟨ah.toArray⟩])) := hown7.kept (row := some B) ⟨rfl, rfl, rfl, by simp, fun k _ hk => Below.heap_setCell w7 ⟨B, 3, none⟩ _ k (fun e => hk (by rw [e]))⟩ (.inr (by simpa [Value.ownBlock] using hg7))
    clear hown7 hgrow7 hor7 c7 f7
    go_wp2_with fail
    go_end0
    refine ⟨rfl, ⟨_, ⟨k0, u0, HR7.out.set3 _, HREST.out⟩, wsCast HO8.out (by simp) (by rw [adrCells_app, adrCells_one]; rfl), by simpa [Value.ownBlock] using hg7, h4⟩, HK.out⟩
end Go.Proofs.YtjlcphofkepajaaGreat
