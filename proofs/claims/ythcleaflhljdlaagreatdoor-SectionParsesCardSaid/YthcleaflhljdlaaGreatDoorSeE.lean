/- Contracts of package section: asked. -/
import Derived.Test.YthcleaflhljdlaaGreatDoorSeD
import Derived.OwnWalk
import Derived.Laws.OwnMore
namespace Go.Proofs.YthcleaflhljdlaaGreatDoor
open Go Go.RowKit

def intV (n : Int) : Value := .int .i64 n
def nilV : Value := .slice none 0 0
/-- A spec in memory. -/
def Box (W : World) (S : Nat) (vp : Value) (k : Int) (vn : Value) (c : Bool) (a b : Int) : Prop :=
  W.heap[S]? = some (.cells #[vp, .int .i64 k, vn, .bool c, .int .i64 a, .int .i64 b] 26 (0, 0))
theorem Box.lt {W : World} {S : Nat} {vp : Value} {k : Int} {vn : Value} {c : Bool} {a b : Int} (h : Box W S vp k vn c a b) : S < W.heap.size := (Array.getElem?_eq_some_iff.1 h).1
theorem Box.block {W W' : World} {S : Nat} {vp : Value} {k : Int} {vn : Value} {c : Bool} {a b : Int} (h : Box W S vp k vn c a b) (hb : W'.heap[S]? = W.heap[S]?) : Box W' S vp k vn c a b := hb.trans h
theorem Box.below {W W' : World} {S : Nat} {vp : Value} {k : Int} {vn : Value} {c : Bool} {a b : Int} (h : Box W S vp k vn c a b) (hb : Below W.heap.size W W') : Box W' S vp k vn c a b := h.block (hb.block S h.lt)
theorem Box.gr {B : Nat} {W W' : World} {S : Nat} {vp : Value} {k : Int} {vn : Value} {c : Bool} {a b : Int} (h : Box W S vp k vn c a b) (hg : Gr B W W') (hB : S ≠ B) : Box W' S vp k vn c a b := h.block (hg.block S h.lt (fun e => hB (Option.some.inj e)))
theorem Box.c {W : World} {S : Nat} {vp : Value} {k : Int} {vn : Value} {c : Bool} {a b : Int} (h : Box W S vp k vn c a b) :
    W.cell? ⟨S, 0, none⟩ = some vp ∧ W.cell? ⟨S, 1, none⟩ = some (.int .i64 k) ∧ W.cell? ⟨S, 2, none⟩ = some vn ∧ W.cell? ⟨S, 3, none⟩ = some (.bool c) ∧ W.cell? ⟨S, 4, none⟩ = some (.int .i64 a) ∧ W.cell? ⟨S, 5, none⟩ = some (.int .i64 b) := by
  unfold Box at h
  refine ⟨?_, ?_, ?_, ?_, ?_, ?_⟩ <;> simp [World.cell?, h]
theorem Box.f {W : World} {S : Nat} {vp : Value} {k : Int} {vn : Value} {c : Bool} {a b : Int} (h : Box W S vp k vn c a b) (j : Nat) : W.frozen? ⟨S, j, none⟩ = false := by
  unfold Box at h
  simp [World.frozen?, h]
theorem Box.set0 {W : World} {S : Nat} {vp : Value} {k : Int} {vn : Value} {c : Bool} {a b : Int} (h : Box W S vp k vn c a b) (v : Value) : Box (W.setCell ⟨S, 0, none⟩ v) S v k vn c a b := by
  unfold Box at h ⊢
  simp [World.setCell, Array.getElem?_modify, h]
theorem Box.set1 {W : World} {S : Nat} {vp : Value} {k : Int} {vn : Value} {c : Bool} {a b : Int} (h : Box W S vp k vn c a b) (n : Int) : Box (W.setCell ⟨S, 1, none⟩ (.int .i64 n)) S vp n vn c a b := by
  unfold Box at h ⊢
  simp [World.setCell, Array.getElem?_modify, h]
theorem Box.set2 {W : World} {S : Nat} {vp : Value} {k : Int} {vn : Value} {c : Bool} {a b : Int} (h : Box W S vp k vn c a b) (v : Value) : Box (W.setCell ⟨S, 2, none⟩ v) S vp k v c a b := by
  unfold Box at h ⊢
  simp [World.setCell, Array.getElem?_modify, h]
theorem Box.set3 {W : World} {S : Nat} {vp : Value} {k : Int} {vn : Value} {c : Bool} {a b : Int} (h : Box W S vp k vn c a b) (x : Bool) : Box (W.setCell ⟨S, 3, none⟩ (.bool x)) S vp k vn x a b := by
  unfold Box at h ⊢
  simp [World.setCell, Array.getElem?_modify, h]
theorem Box.set45 {W : World} {S : Nat} {vp : Value} {k : Int} {vn : Value} {c : Bool} {a b : Int} (h : Box W S vp k vn c a b) (x y : Int) : Box ((W.setCell ⟨S, 4, none⟩ (.int .i64 x)).setCell ⟨S, 5, none⟩ (.int .i64 y)) S vp k vn c x y := by
  unfold Box at h ⊢
  simp [World.setCell, Array.getElem?_modify, h]
/-- All that lay lies as it lay, but for two blocks. -/
structure G2 (B S : Nat) (W W' : World) : Prop where
  os : W'.os = W.os
  tape : W'.tape = W.tape
  output : W'.output = W.output
  size : W.heap.size ≤ W'.heap.size
  block : ∀ k, k < W.heap.size → k ≠ B → k ≠ S → W'.heap[k]? = W.heap[k]?
theorem G2.refl (B S : Nat) (W : World) : G2 B S W W := ⟨rfl, rfl, rfl, Nat.le_refl _, fun _ _ _ _ => rfl⟩
theorem G2.trans {B S : Nat} {a b c : World} (h : G2 B S a b) (k : G2 B S b c) : G2 B S a c :=
  ⟨k.os.trans h.os, k.tape.trans h.tape, k.output.trans h.output, Nat.le_trans h.size k.size, fun i hi h1 h2 => (k.block i (Nat.lt_of_lt_of_le hi h.size) h1 h2).trans (h.block i hi h1 h2)⟩
theorem G2.gr {B S : Nat} {a b c : World} (h : G2 B S a b) (k : Gr B b c) : G2 B S a c :=
  h.trans ⟨k.os, k.tape, k.output, k.size, fun i hi h1 _ => k.block i hi (fun e => h1 (Option.some.inj e))⟩
theorem G2.below {B S : Nat} {a b c : World} (h : G2 B S a b) (k : Below b.heap.size b c) : G2 B S a c :=
  h.trans ⟨k.os, k.tape, k.output, k.size, fun i hi _ _ => k.block i hi⟩
theorem G2.low {B S : Nat} {a b c : World} (h : G2 B S a b) (k : Below a.heap.size b c) : G2 B S a c :=
  ⟨k.os.trans h.os, k.tape.trans h.tape, k.output.trans h.output, Nat.le_trans h.size k.size, fun i hi h1 h2 => (k.block i hi).trans (h.block i hi h1 h2)⟩
theorem G2.set {B S : Nat} {a b : World} (h : G2 B S a b) (j : Nat) (u : Value) : G2 B S a (b.setCell ⟨S, j, none⟩ u) :=
  h.trans ⟨rfl, rfl, rfl, by simp, fun i _ _ h2 => Below.heap_setCell b ⟨S, j, none⟩ u i h2⟩
/-- Behind an append to a row of the call's own. -/
theorem G2.own {B S : Nat} {a b c : World} {v : Value} (h : G2 B S a b) (k : b.grownBy c v.ownBlock) (hv : ∀ q, v.ownBlock = some q → a.heap.size ≤ q) : G2 B S a c :=
  ⟨k.os.trans h.os, k.tape.trans h.tape, k.output.trans h.output, Nat.le_trans h.size k.size, fun i hi h1 h2 => (k.block i (Nat.lt_of_lt_of_le hi h.size) (fun e => by
    have := hv i e.symm
    omega)).trans (h.block i hi h1 h2)⟩
theorem own_ge {W : World} {base : Nat} {e : TypeId} {v : Value} {n : Nat} {xs : List Value} (h : W.ownsRow base e 1 v n xs) : ∀ q, v.ownBlock = some q → base ≤ q := fun q hq => (h.lt q hq).1
theorem own_gr {B base : Nat} {W W' : World} {e : TypeId} {v : Value} {n : Nat} {xs : List Value} (h : W.ownsRow base e 1 v n xs) (hg : Gr B W W') (hB : B < base) : W'.ownsRow base e 1 v n xs := by
  refine h.kept (row := some B) hg ?_
  rcases hv : v.ownBlock with _ | q
  · simp
  · right
    intro e
    cases e
    have := own_ge h _ hv
    omega
theorem own_set {S base j : Nat} {u : Value} {W : World} {e : TypeId} {v : Value} {n : Nat} {xs : List Value} (h : W.ownsRow base e 1 v n xs) (hB : S < base) : (W.setCell ⟨S, j, none⟩ u).ownsRow base e 1 v n xs :=
  own_gr h (grownBy_setCell W ⟨S, j, none⟩ u) hB
theorem grown_box {W W' : World} {base S : Nat} {v vp : Value} {k : Int} {vn : Value} {c : Bool} {a b : Int} (h : Box W S vp k vn c a b) (hg : W.grownBy W' v.ownBlock) (hv : ∀ q, v.ownBlock = some q → base ≤ q) (hS : S < base) : Box W' S vp k vn c a b :=
  h.block (hg.block S h.lt (fun e => by have := hv S e.symm; omega))
theorem grown_rd {W W' : World} {base B : Nat} {v : Value} {s : ByteArray} {k : Nat} (h : Rd W B s k) (hg : W.grownBy W' v.ownBlock) (hv : ∀ q, v.ownBlock = some q → base ≤ q) (hS : B < base) : Rd W' B s k :=
  h.block (hg.block B h.lt (fun e => by have := hv B e.symm; omega))
theorem Rd.other {W : World} {B S : Nat} {s : ByteArray} {k : Nat} (h : Rd W B s k) (j : Nat) (u : Value) (hS : B ≠ S) : Rd (W.setCell ⟨S, j, none⟩ u) B s k := h.block (Below.heap_setCell W ⟨S, j, none⟩ u B hS)
theorem Tryz.infoInt : (Tryz.prog.info? 3).map (fun i => (i.zero, i.size, i.bytes)) = some (some (.int .i64 0), 1, 8) := by kernel_rfl

theorem wsCast {w : World} {base n n' : Nat} {e : TypeId} {v : Value} {xs ys : List Value} (h : w.ownsRow base e 1 v n xs) (h1 : n = n') (h2 : xs = ys) : w.ownsRow base e 1 v n' ys := by subst h1 h2; exact h
def AskIs (B S : Nat) (s : ByteArray) (w : World) (o : Option (List Int × Nat × List UInt8)) (e : Ending) (w' : World) : Prop :=
  match o with
  | some (p, k, r) => e = .returned (.bool true) ∧ ∃ (k' : Nat) (vp : Value), Rd w' B s k' ∧ k' ≤ s.size ∧ s.data.toList.drop k' = r ∧ Box w' S vp (k : Int) nilV false 0 0 ∧ w'.ownsRow w.heap.size 3 1 vp p.length (p.map intV) ∧ G2 B S w w'
  | none => e = .returned (.bool false) ∧ ∃ (k' : Nat) (ao : Option Addr) (n cap : Nat) (q : Int), Rd w' B s k' ∧ k' ≤ s.size ∧ Box w' S (.slice ao n cap) q nilV false 0 0 ∧ G2 B S w w'
theorem own_slice {w : World} {base n : Nat} {e : TypeId} {v : Value} {xs : List Value} (h : w.ownsRow base e 1 v n xs) : ∃ ao cap, v = .slice ao n cap := by
  rcases h.2 with ⟨rfl, h0⟩ | ⟨g, cap, cur, rfl, _⟩
  · exact ⟨_, _, by rw [h0]⟩
  · exact ⟨_, _, rfl⟩
theorem numV_whatOf {l : List UInt8} {k : Nat} (h : whatOf l = some k) : numV (whatOf l) = .tuple #[.int .i64 (k : Int), .bool true] := by rw [h]; rfl
theorem numV_whatNo {l : List UInt8} (h : whatOf l = none) : numV (whatOf l) = .tuple #[.int .i64 0, .bool false] := by rw [h]; rfl

theorem askL_bad {n : Nat} {l : List UInt8} {acc : List Int} (h1 : numSpec (l.takeWhile isDig) = none) (h2 : whatOf (l.takeWhile whatB) = none) : askL (n + 1) l acc = none := by
  unfold askL
  rw [h1]
  simp only
  rw [h2]
theorem askL_what {n q : Nat} {l : List UInt8} {acc : List Int} (h1 : numSpec (l.takeWhile isDig) = none) (h2 : whatOf (l.takeWhile whatB) = some q) : askL (n + 1) l acc = if q = 0 ∧ acc ≠ [] then none else some (acc, q, l.dropWhile whatB) := by
  unfold askL
  rw [h1]
  simp only
  rw [h2]
theorem askL_last {n m : Nat} {l : List UInt8} {acc : List Int} (h1 : numSpec (l.takeWhile isDig) = some m) (h2 : takeP [46] (l.dropWhile isDig) = none) : askL (n + 1) l acc = some (acc ++ [(m : Int)], 0, l.dropWhile isDig) := by
  unfold askL
  rw [h1]
  simp only
  rw [h2]
theorem askL_more {n m : Nat} {l r : List UInt8} {acc : List Int} (h1 : numSpec (l.takeWhile isDig) = some m) (h2 : takeP [46] (l.dropWhile isDig) = some r) : askL (n + 1) l acc = askL n r (acc ++ [(m : Int)]) := by
  conv => lhs; unfold askL
  rw [h1]
  simp only
  rw [h2]
set_option maxRecDepth 100000 in
set_option maxHeartbeats 4000000 in
theorem asked_any (B S : Nat) (s : ByteArray) (k : Nat) (w : World) (hr : Rd w B s k) (hx : Box w S nilV 0 nilV false 0 0) (hBS : B ≠ S) (hl : s.size ≤ 1000000000) (hk : k ≤ s.size) (hw : wrds w) (hB : 0 ≠ B) (hS : 0 ≠ S) :
    Calls Tryz.prog 33 #[.pointer (some ⟨B, 0, none⟩), .pointer (some ⟨S, 0, none⟩)] w (AskIs B S s w (askL ((s.data.toList.drop k).length + 1) (s.data.toList.drop k) [])) := by
  obtain ⟨i0, hi, hz⟩ := Option.map_eq_some_iff.1 Tryz.infoInt
  simp only [Prod.mk.injEq] at hz
  obtain ⟨hz0, hz1, hz2⟩ := hz
  have hBw := hr.lt
  have hSw := hx.lt
  have HR := Lib.hid hr
  have HX := Lib.hid hx
  have HWr := Lib.hid hw
  have HNy := Lib.hid (fun j l n W hd h hr hk => rdNumber_yes B s j l n W hd h hr hl hk)
  have HNn := Lib.hid (fun j l W hd h hr hk => rdNumber_no B s j l W hd h hr hl hk)
  have HWh := Lib.hid (fun j W hr hk hw => what_any B s j W hr hl hk hw hB)
  have HTy := Lib.hid (fun j l p q r W hq hp hd h hr hk => takes_yes B s j l p q r W hq hp hd h hr hl hk)
  have HTn := Lib.hid (fun j l p q W hq hp hd h hr hk => takes_no B s j l p q W hq hp hd h hr hl hk)
  clear hr hx hw
  go_enter Tryz.func33, Tryz.ntmps33
  go_wp2_with fail
  go_loopg [] (s.size - k) (fun g wr => ∃ (j n : Nat) (acc : List Int) (vp : Value), g = s.size - j ∧ j ≤ s.size ∧ acc.length ≤ j ∧ (s.data.toList.drop j).length < n ∧ Hid (Rd wr B s j) ∧ Hid (Box wr S vp 0 nilV false 0 0) ∧ Hid (wr.ownsRow w.heap.size 3 1 vp acc.length (acc.map intV)) ∧ Hid (G2 B S w wr) ∧
    Hid (askL ((s.data.toList.drop k).length + 1) (s.data.toList.drop k) [] = askL n (s.data.toList.drop j) acc))
  case atStart => exact ⟨k, _, [], nilV, rfl, hk, by simp, Nat.lt_succ_self _, HR.out, HX.out, ⟨rfl, .inl ⟨rfl, rfl⟩⟩, G2.refl _ _ _, rfl⟩
  case round =>
    obtain ⟨j, n, acc, vp, rfl, hj, hal, hn, HRj, HBx, HO, HG, HS⟩ := hrel
    obtain ⟨n, rfl⟩ : ∃ m, n = m + 1 := ⟨n - 1, by omega⟩
    have HNL := Lib.hid hn
    clear hn
    cases h1 : numSpec ((s.data.toList.drop j).takeWhile isDig) with
    | none =>
      have HN1 := Lib.hid (HNn.out j _ wr rfl h1 HRj.out hj)
      have HN0 := Lib.hid h1
      clear h1
      go_wp2_with fail
      with_reducible refine HN1.out.mono ?_
      rintro e w1 ⟨rfl, hR1, hG1⟩
      have HR1 := Lib.hid hR1
      have HG1 := Lib.hid (HG.out.gr hG1)
      have HBx1 := Lib.hid (HBx.out.gr hG1 hBS.symm)
      have HO1 := Lib.hid (own_gr HO.out hG1 hBw)
      have HWr1 : Hid (wrds w1) := by
        obtain ⟨t, fr, hh⟩ := HWr.out
        exact ⟨t, fr, (HG1.out.block _ (Array.getElem?_eq_some_iff.1 hh).1 hB hS).trans hh⟩
      have HW1 := HWh.out j w1 HR1.out hj HWr1.out
      clear hR1 hG1 HN1 HG HBx HO HRj
      cases h2 : whatOf ((s.data.toList.drop j).takeWhile whatB) with
      | none =>
        rw [numV_whatNo h2] at HW1
        have HW1 := Lib.hid HW1
        have HA1 := Lib.hid (askL_bad (n := n) (acc := acc) HN0.out h2)
        clear h2
        go_wp2_with fail
        with_reducible refine HW1.out.mono ?_
        rintro e w2 ⟨rfl, k2, hR2, hk2, hD2, hG2⟩
        have HR2 := Lib.hid hR2
        have HBx2 := Lib.hid (HBx1.out.gr hG2 hBS.symm)
        have HG2 := Lib.hid (HG1.out.gr hG2)
        have c1 := HBx2.out.c.2.1
        have f1 := HBx2.out.f 1
        clear hR2 hD2 hG2
        go_wp2_with fail
        go_ret
        rw [HS.out, HA1.out]
        obtain ⟨ao, cap, hvp⟩ := own_slice HO1.out
        have hb := HBx2.out.set1 0
        rw [hvp] at hb
        exact ⟨rfl, k2, _, _, _, _, HR2.out.other 1 _ hBS, hk2, hb, HG2.out.set 1 _⟩
      | some q =>
        rw [numV_whatOf h2] at HW1
        have HW1 := Lib.hid HW1
        have HA1 := Lib.hid (askL_what (n := n) (acc := acc) HN0.out h2)
        clear h2
        go_wp2_with fail
        with_reducible refine HW1.out.mono ?_
        rintro e w2 ⟨rfl, k2, hR2, hk2, hD2, hG2⟩
        have HBx2 := Lib.hid (HBx1.out.gr hG2 hBS.symm)
        have HO2 := Lib.hid (own_gr HO1.out hG2 hBw)
        have HR2 := Lib.hid hR2
        have HD2 := Lib.hid hD2
        have HG2 := Lib.hid (HG1.out.gr hG2)
        have c1 := HBx2.out.c.2.1
        have f1 := HBx2.out.f 1
        clear hR2 hD2 hG2 HW1
        by_cases hq : q = 0
        · subst hq
          have HBx3 : Hid (Box (w2.setCell ⟨S, 1, none⟩ (.int .i64 0)) S vp 0 nilV false 0 0) := HBx2.out.set1 0
          have c0 := HBx3.out.c.1
          have HO3 : Hid ((w2.setCell ⟨S, 1, none⟩ (.int .i64 0)).ownsRow w.heap.size 3 1 vp acc.length (acc.map intV)) := own_set (j := 1) (u := .int .i64 0) HO2.out hSw
          cases hacc : acc with
          | nil =>
            subst hacc
            obtain ⟨ao, cap, rfl⟩ : ∃ ao cap, vp = .slice ao 0 cap := by
              rcases HO3.out.2 with ⟨rfl, _⟩ | ⟨g, cap, _, rfl, _⟩
              · exact ⟨_, _, rfl⟩
              · exact ⟨_, _, rfl⟩
            go_wp2_with fail
            go_ret
            rw [HS.out, HA1.out]
            exact ⟨rfl, k2, _, HR2.out.other 1 _ hBS, hk2, HD2.out, HBx3.out, HO3.out, HG2.out.set 1 _⟩
          | cons x y =>
            subst hacc
            obtain ⟨ao, cap, rfl⟩ : ∃ ao cap, vp = .slice ao (y.length + 1) cap := by
              rcases HO3.out.2 with ⟨_, h0⟩ | ⟨g, cap, _, rfl, _⟩
              · simp at h0
              · exact ⟨_, _, rfl⟩
            have b0 : (((y.length + 1 : Nat) : Int) == 0) = false := beq_no (by omega)
            go_wp2_with fail
            go_ret
            rw [HS.out, HA1.out]
            exact ⟨rfl, k2, _, _, _, _, HR2.out.other 1 _ hBS, hk2, HBx3.out, HG2.out.set 1 _⟩
        · have b1 : ((q : Int) != 0) = true := bne_yes (by omega)
          have HBx3 := Lib.hid (HBx2.out.set1 (q : Int))
          have HO3 := Lib.hid (own_set (j := 1) (u := .int .i64 (q : Int)) HO2.out hSw)
          have HQ : Hid (¬ (q = 0 ∧ acc ≠ [])) := fun h => hq h.1
          go_wp2_with fail
          go_ret
          rw [HS.out, HA1.out]
          simp only
          rw [if_neg HQ.out]
          exact ⟨rfl, k2, vp, HR2.out.other 1 _ hBS, hk2, HD2.out, HBx3.out, HO3.out, HG2.out.set 1 _⟩
    | some m =>
      have HN1 := Lib.hid (HNy.out j _ m wr rfl h1 HRj.out hj)
      have HN0 := Lib.hid h1
      clear h1
      go_wp2_with fail
      with_reducible refine HN1.out.mono ?_
      rintro e w1 ⟨rfl, j1, hR1, hj1, hD1, hG1⟩
      have HR1 := Lib.hid hR1
      have HG1 := Lib.hid (HG.out.gr hG1)
      have HBx1 := Lib.hid (HBx.out.gr hG1 hBS.symm)
      have HO1 := Lib.hid (own_gr HO.out hG1 hBw)
      have HD1 := Lib.hid hD1
      have hlt : j + 1 ≤ j1 := by
        have hd := (numSpec_digits HN0.out).2.1
        have e1 : s.data.toList.drop j = (s.data.toList.drop j).takeWhile isDig ++ s.data.toList.drop j1 := by rw [hD1, List.takeWhile_append_dropWhile]
        have e2 := drop_len hj hj1 e1
        have e3 : 0 < ((s.data.toList.drop j).takeWhile isDig).length := List.length_pos_iff.2 hd
        omega
      have HZ1 : Hid (w.heap.size ≤ w1.heap.size) := HG1.out.size
      have c0 := HBx1.out.c.1
      have f0 := HBx1.out.f 0
      have hSW := HBx1.out.lt
      have e0 : (w1.alloc (.cells #[.int .i64 (m : Int)] 3)).cell? ⟨S, 0, none⟩ = some vp := ((Below.refl w1.heap.size w1).alloc (Nat.le_refl _) _).cell (p := ⟨S, 0, none⟩) hSW |>.trans c0
      clear hR1 hG1 hD1 HN1 HG HBx HO HRj
      go_wp2_with (at_builtin; refine wpList_append_own _ rfl _ _ 23 rfl w.heap.size 3 i0 (.int .i64 0) 1 8 Tryz.underlying23 hi hz0 hz1 hz2 rfl (by decide) _ _ _ rfl (HO1.out.alloc _) ⟨w1.heap.size, 0, none⟩ 1 1 [.int .i64 (m : Int)] rfl rfl ?c1 ?c2 ?c3 ?c4 ?c5 ?_)
      case c1 => exact cell_one_new w1 _ _
      case c2 => simp [Value.oneCell']
      case c3 => unfold maxLen; omega
      case c4 => omega
      case c5 => have := HZ1.out; simp; omega
      intro v' w2 hown2 hgrow2 _
      obtain ⟨gv, cv, hv', _⟩ := ownsRow_slice hown2 (by omega)
      subst hv'
      have hge := own_ge HO1.out
      have HA := Lib.hid ((Below.refl w1.heap.size w1).alloc (Nat.le_refl _) (.cells #[.int .i64 (m : Int)] 3))
      have HBx2 := Lib.hid (grown_box (HBx1.out.below HA.out) hgrow2 hge hSw)
      have HR2 := Lib.hid (grown_rd (HR1.out.below HA.out) hgrow2 hge hBw)
      have HG2 := Lib.hid ((HG1.out.below HA.out).own hgrow2 hge)
      have HO2 := Lib.hid hown2
      have f0' := HBx2.out.f 0
      have c0' := HBx2.out.c.1
      have HR3 := Lib.hid (HR2.out.other 0 (.slice (some ⟨gv, 0, none⟩) (acc.length + 1) cv) hBS)
      have HBx3 := Lib.hid (HBx2.out.set0 (.slice (some ⟨gv, 0, none⟩) (acc.length + 1) cv))
      have HO3 := Lib.hid (own_set (j := 0) (u := .slice (some ⟨gv, 0, none⟩) (acc.length + 1) cv) HO2.out hSw)
      have HG3 := Lib.hid (HG2.out.set 0 (.slice (some ⟨gv, 0, none⟩) (acc.length + 1) cv))
      have HMap : Hid (acc.map intV ++ [.int .i64 (m : Int)] = (acc ++ [(m : Int)]).map intV) := by unfold Hid; simp [intV]
      rw [HMap.out] at HO3
      clear hown2 hgrow2 hge HA HBx1 HR1 HG1 HO1 HBx2 HR2 HG2 HO2 c0 f0 e0
      cases h2 : takeP [46] (s.data.toList.drop j1) with
      | none =>
        have HT := Lib.hid (fun W hr => HTn.out j1 _ [46] ⟨#[46]⟩ W rfl (by decide) rfl h2 hr hj1)
        rw [HD1.out] at h2
        have HA1 := Lib.hid (askL_last (n := n) (acc := acc) HN0.out h2)
        clear h2
        go_wp2_with fail
        with_reducible refine (HT.out _ HR3.out).mono ?_
        rintro e w4 ⟨rfl, hR4, hG4⟩
        have HR4 := Lib.hid hR4
        have HBx4 := Lib.hid (HBx3.out.gr hG4 hBS.symm)
        have HO4 := Lib.hid (own_gr HO3.out hG4 hBw)
        have HG4 := Lib.hid (HG3.out.gr hG4)
        clear hR4 hG4
        go_wp2_with fail
        go_ret
        rw [HS.out, HA1.out]
        exact ⟨rfl, j1, _, HR4.out, hj1, HD1.out, HBx4.out, wsCast HO4.out (by simp) rfl, HG4.out⟩
      | some r =>
        have HT := Lib.hid (fun W hr => HTy.out j1 _ [46] ⟨#[46]⟩ r W rfl (by decide) rfl h2 hr hj1)
        have HT2 := Lib.hid ((takeP_iff _ _ _).1 h2)
        rw [HD1.out] at h2
        have HA1 := Lib.hid (askL_more (n := n) (acc := acc) HN0.out h2)
        clear h2
        go_wp2_with fail
        with_reducible refine (HT.out _ HR3.out).mono ?_
        rintro e w4 ⟨rfl, j4, hR4, hj4, hD4, hG4⟩
        have hj14 : j4 = j1 + 1 := drop_len (a := [46]) hj1 hj4 (by rw [HT2.out, hD4])
        have HJ := Lib.hid hj14
        have HR4 := Lib.hid hR4
        have HD4 := Lib.hid hD4
        have HBx4 := Lib.hid (HBx3.out.gr hG4 hBS.symm)
        have HO4 := Lib.hid (own_gr HO3.out hG4 hBw)
        have HG4 := Lib.hid (HG3.out.gr hG4)
        clear hR4 hG4 hD4 hj14
        go_wp2_with fail
        go_roundg (s.size - j4)
        case measure => have := HJ.out; omega
        case rel =>
          refine ⟨j4, n, acc ++ [(m : Int)], _, rfl, hj4, by have := HJ.out; simp; omega, ?_, HR4.out, HBx4.out, wsCast HO4.out (by simp) rfl, HG4.out, ?_⟩
          · have h1 := HNL.out
            have h2 := HJ.out
            simp only [List.length_drop, len_toList] at h1 ⊢
            omega
          · unfold Hid
            rw [HS.out, HA1.out, HD4.out]
end Go.Proofs.YthcleaflhljdlaaGreatDoor
