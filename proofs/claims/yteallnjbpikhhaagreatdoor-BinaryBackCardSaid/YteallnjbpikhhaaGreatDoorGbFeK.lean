/- The example that every statement asks first: its tree. -/
import Derived.Test.YteallnjbpikhhaaGreatDoorGbTrI
import Derived.Lib.SlBytesConst
import Derived.Great.BuildSlice
import Derived.Test.YteallnjbpikhhaaGreatDoorGbFeH
import Derived.Test.YteallnjbpikhhaaGreatDoorGbFeN
namespace Go.Proofs.YteallnjbpikhhaaGreatDoor
open Go Go.RowKit

def exB : List UInt8 := [67, 111, 110, 116, 101, 110, 116, 45, 84, 121, 112, 101, 58, 32, 109, 117, 108, 116, 105, 112, 97, 114, 116, 47, 109, 105, 120, 101, 100, 59, 32, 98, 111, 117, 110, 100, 97, 114, 121, 61, 98, 13, 10, 13, 10, 112, 114, 101, 13, 10, 45, 45, 98, 13, 10, 13, 10, 111, 110, 101, 13, 10, 45, 45, 98, 13, 10, 67, 111, 110, 116, 101, 110, 116, 45, 84, 121, 112, 101, 58, 32, 109, 101, 115, 115, 97, 103, 101, 47, 114, 102, 99, 56, 50, 50, 13, 10, 13, 10, 83, 117, 98, 106, 101, 99, 116, 58, 32, 115, 13, 10, 13, 10, 116, 119, 111, 13, 10, 45, 45, 98, 45, 45, 13, 10, 112, 111, 115, 116]
def exK : Tr := .mk 2 (67, 99) (99, 116) [.mk 0 (99, 113) (113, 116) [] [] (0, 0)] [] (0, 0)
def exT : Tr := .mk 1 (0, 45) (45, 129) [.mk 0 (55, 57) (57, 60) [] [] (0, 0), exK] [(48, 55), (60, 67)] (116, 125)
set_option maxRecDepth 100000 in
theorem ex_tree : treeS exB = exT := by kernel_rfl
def exZ : List Int := [67, 111, 110, 116, 101, 110, 116, 45, 84, 121, 112, 101, 58, 32, 109, 117, 108, 116, 105, 112, 97, 114, 116, 47, 109, 105, 120, 101, 100, 59, 32, 98, 111, 117, 110, 100, 97, 114, 121, 61, 98, 13, 10, 13, 10, 112, 114, 101, 13, 10, 45, 45, 98, 13, 10, 13, 10, 111, 110, 101, 13, 10, 45, 45, 98, 13, 10, 67, 111, 110, 116, 101, 110, 116, 45, 84, 121, 112, 101, 58, 32, 109, 101, 115, 115, 97, 103, 101, 47, 114, 102, 99, 56, 50, 50, 13, 10, 13, 10, 83, 117, 98, 106, 101, 99, 116, 58, 32, 115, 13, 10, 13, 10, 116, 119, 111, 13, 10, 45, 45, 98, 45, 45, 13, 10, 112, 111, 115, 116]
def exC : Array Value := (exZ.map (Value.int .u8)).toArray
theorem exC_row : exC.toList = exB.map byteV := by kernel_rfl
theorem exC_size : exC.size = 129 := by kernel_rfl
set_option maxRecDepth 100000 in
theorem ex_row (w : World) (t : TypeId) (fr : Nat × Nat) : bytesArg (w.alloc (.cells exC t fr)) (.slice (some ⟨w.heap.size, 0, none⟩) 129 129) exB :=
  (sliceAt_new w t fr exC exB exC_row).arg (cap := 129) (by decide) (by unfold maxLen; decide)
theorem own_len {S : Nat → Prop} {W : World} {ty : TypeId} {size n cn cc : Nat} {ca : Option Addr} {xs : List Value} (h : ownS S W ty size (.slice ca cn cc) n xs) : cn = n := by
  rcases h.1.2 with ⟨e, h0⟩ | ⟨g, cap, cur, e, _⟩
  · obtain ⟨_, rfl, _⟩ := Value.slice.inj e; exact h0.symm
  · obtain ⟨_, rfl, _⟩ := Value.slice.inj e; rfl
theorem kids_len {S : Nat → Prop} {W : World} {t : Tr} {k1 k2 k3 k4 k5 k8 k9 : Value} {a : Option Addr} {n c : Nat} {cs : Value} (h : treeAt S W t (.agg #[k1, k2, k3, k4, k5, .slice a n c, cs, k8, k9])) : n = t.kids.length := by
  obtain ⟨ka, kn, kc, ca, cn, cc, us, he, _, ho, hk⟩ := treeAt_open h
  have h1 := (kids_at ho hk).1
  simp only [Value.agg.injEq, Array.mk.injEq, List.cons.injEq, Value.slice.injEq] at he
  rw [he.2.2.2.2.2.1.2.1]
  exact h1
end Go.Proofs.YteallnjbpikhhaaGreatDoor

/- The example that every statement of layer 16 asks first. -/
namespace Go.Proofs.YteallnjbpikhhaaGreatDoor
open Go Go.RowKit

theorem rowOf_one (W : World) (ty : TypeId) (u : Value) : rowOf (W.alloc (.cells #[u] ty)) (.slice (some ⟨W.heap.size, 0, none⟩) 1 1) [u] := by
  refine ⟨_, 1, rfl, .inr ⟨W.heap.size, 0, rfl, by simp, fun j hj => ?_⟩⟩
  obtain rfl : j = 0 := by simpa using hj
  simp only [World.cell?, heap_alloc_new]
  rfl
theorem rowOf_two (W : World) (ty : TypeId) (u u2 : Value) : rowOf (W.alloc (.cells #[u, u2] ty)) (.slice (some ⟨W.heap.size, 0, none⟩) 2 2) [u, u2] := by
  refine ⟨_, 2, rfl, .inr ⟨W.heap.size, 0, rfl, by simp, fun j hj => ?_⟩⟩
  match j, hj with
  | 0, _ =>
    simp only [World.cell?, heap_alloc_new]
    rfl
  | 1, _ =>
    simp only [World.cell?, heap_alloc_new]
    rfl
theorem rowOf_emp (W : World) : rowOf W (.slice none 0 0) [] := ⟨none, 0, rfl, .inl rfl⟩
theorem strs_emp (W : World) : strsArg W (.slice none 0 0) [] := ⟨none, 0, rfl, Nat.le_refl _, Nat.zero_le _, (fun _ h => by cases h), .inl rfl⟩
/-- A spec without names, and one with the name that was just laid. -/
theorem spF_bare {W : World} {p : List Int} {q x y : Int} {c : Bool} {a1 : Option Addr} {c1 : Nat} (hp : rowOf W (.slice a1 p.length c1) (p.map intV)) : SpF W ⟨p, q, [], c, x, y⟩ a1 none c1 0 :=
  ⟨⟨hp, rowOf_emp W, fun _ h => by cases h⟩, strs_emp W⟩
theorem spF_name {W : World} {p : List Int} {q x y : Int} {c : Bool} {a1 : Option Addr} {c1 : Nat} {n : List UInt8} {ty : TypeId} {B : Nat} (hB : B = W.heap.size) (hn : n.length ≤ 1000) (hp : rowOf W (.slice a1 p.length c1) (p.map intV)) :
    SpF (W.alloc (.cells #[.string ⟨n.toArray⟩] ty)) ⟨p, q, [n], c, x, y⟩ a1 (some ⟨B, 0, none⟩) c1 1 := by
  subst hB
  refine ⟨⟨hp.below ((Below.refl _ _).alloc (Nat.le_refl _) _), rowOf_one W ty (.string ⟨n.toArray⟩), fun a h => ?_⟩, ?_⟩
  · rw [List.mem_singleton.1 h]
    omega
  · refine ⟨_, 1, rfl, Nat.le_refl _, by unfold maxLen; decide, fun s h => ?_, .inr ⟨W.heap.size, 0, rfl, by simp, fun j hj => ?_⟩⟩
    · have e : s = ⟨n.toArray⟩ := List.mem_singleton.1 h
      rw [e]
      show n.toArray.size ≤ maxLen
      unfold maxLen
      simp
      omega
    · obtain rfl : j = 0 := by simpa [bsL] using hj
      simp only [World.cell?, heap_alloc_new]
      rfl
set_option maxRecDepth 100000 in
theorem ex_get1 : getL exB exT ⟨[1], 0, [], false, 0, 0⟩ = [111, 110, 101] := by kernel_rfl
set_option maxRecDepth 100000 in
theorem ex_get2 : getL exB exT ⟨[2, 1], 0, [], false, 0, 0⟩ = [116, 119, 111] := by kernel_rfl
set_option maxRecDepth 100000 in
theorem ex_get3 : getL exB exT ⟨[2], 2, [[115, 117, 98, 106, 101, 99, 116]], false, 0, 0⟩ = [83, 117, 98, 106, 101, 99, 116, 58, 32, 115, 13, 10, 13, 10] := by kernel_rfl
set_option maxRecDepth 100000 in
theorem ex_get4 : getL exB exT ⟨[1], 0, [], true, 1, 9⟩ = [110, 101] := by kernel_rfl
theorem ex_find : downT true exT [3] = none := by kernel_rfl
set_option maxRecDepth 100000 in
theorem ex_okT : okT exB.length exT := by rw [← ex_tree]; exact tree_okT exB
end Go.Proofs.YteallnjbpikhhaaGreatDoor

/- What a law of layer 16 knows of the tree that it parsed. -/
namespace Go.Proofs.YteallnjbpikhhaaGreatDoor
open Go Go.RowKit

theorem fparse_any (v : Value) (l : List UInt8) (w : World) (hv : bytesArg w v l) (hl : l.length ≤ 100000) (he : env w) :
    Calls Tryz.prog 8 #[v] w fun e w' => ∃ ka kc ca cn cc, e = .returned (.tuple #[ptV (treeS l) (.slice ka (treeS l).kids.length kc) (.slice ca cn cc), .int .i64 0]) ∧ tAt w' (treeS l) (ptV (treeS l) (.slice ka (treeS l).kids.length kc) (.slice ca cn cc)) ∧
      rowQ w' w' ka kc (treeS l).kids ∧ Below w.heap.size w w' := by
  refine (treeParse_any v l w hv hl he).mono ?_
  rintro e w' ⟨ka, kn, kc, ca, cn, cc, rfl, ht, hb⟩
  have hta : tAt w' (treeS l) (ptV (treeS l) (.slice ka kn kc) (.slice ca cn cc)) := tAt.of ht
  obtain ⟨ka', kc', ca', cn', cc', h1, h2, h3⟩ := hta.kids
  obtain ⟨rfl, rfl, rfl⟩ := Value.slice.inj h1
  exact ⟨_, _, _, _, _, rfl, hta, h3, hb⟩
/-- A spec of a path of one number that was just laid. -/
theorem spF_one (W : World) (ty : TypeId) (n q : Int) : SpF (W.alloc (.cells #[.int .i64 n] ty)) ⟨[n], q, [], false, 0, 0⟩ (some ⟨W.heap.size, 0, none⟩) none 1 0 := spF_bare (rowOf_one W ty (intV n))
theorem spF_zero (W : World) (q : Int) : SpF W ⟨[], q, [], false, 0, 0⟩ none none 0 0 := spF_bare (rowOf_emp W)
theorem whole_plain (l : List UInt8) : getL l (treeS l) ⟨[], 0, [], false, 0, 0⟩ = l ∧ getL l (treeS l) ⟨[], 1, [], false, 0, 0⟩ ++ getL l (treeS l) ⟨[], 4, [], false, 0, 0⟩ = l := by
  obtain ⟨h1, h2, h3⟩ := tree_root l
  obtain ⟨⟨o1, o2, o3, o4⟩, _⟩ := okT_open (tree_okT l)
  rw [get_top _ _ 0 (.inl rfl), get_top _ _ 1 (.inr (.inl rfl)), get_top _ _ 4 (.inr (.inr rfl))]
  simp only [show ¬ ((0 : Int) = 4) by decide, show ¬ ((1 : Int) = 4) by decide, show ¬ ((1 : Int) = 0) by decide, if_false, if_true]
  rw [h1, h2]
  refine ⟨part_whole l, ?_⟩
  rw [h3, part_two l (Nat.zero_le _) (by omega)]
  exact part_whole l
/-- A leaf, or a message: part 1 is itself, its text is its body. -/
theorem one_plain {l : List UInt8} {t : Tr} (h : ¬ t.kind = 1) : getL l t ⟨[1], 0, [], false, 0, 0⟩ = getL l t ⟨[], 4, [], false, 0, 0⟩ ∧ ∀ n : Nat, n ≤ 65535 → getL l t ⟨[2 + (n : Int)], 0, [], false, 0, 0⟩ = [] := by
  have hp : partsM t = [t] := by unfold partsM; rw [if_neg h]
  have h1 : nthT (partsM t) 1 = some t := by rw [hp]; rfl
  refine ⟨?_, fun n hn => ?_⟩
  · rw [get_at l t t (by decide) (by decide) 0 (.inl rfl) h1, get_top _ _ 4 (.inr (.inr rfl))]
    rfl
  · have h2 : nthT (partsM t) (2 + (n : Int)) = none := by
      rw [hp]
      exact nth_high (by simp; omega)
    exact get_no l t (by omega) (by omega) 0 (.inl rfl) h2
/-- A multipart: each kid by its number; none behind the last. -/
theorem kid_plain {l : List UInt8} {t : Tr} (h : t.kind = 1) (hk : okT l.length t) {i : Nat} (hi : i < t.kids.length) (hb : i + 1 ≤ 4294967295) : getL l t ⟨[(i : Int) + 1], 5, [], false, 0, 0⟩ ++ getL l t ⟨[(i : Int) + 1], 0, [], false, 0, 0⟩ = partS l t.kids[i].hd.1 t.kids[i].bd.2 ∧
    t.kids[i].hd.1 ≤ t.kids[i].bd.2 ∧ t.kids[i].bd.2 ≤ l.length := by
  have hp : partsM t = t.kids := by unfold partsM; rw [if_pos h]
  have h1 : nthT (partsM t) ((i : Int) + 1) = some t.kids[i] := by rw [hp]; exact nth_at hi
  obtain ⟨⟨o1, o2, o3, o4⟩, _⟩ := okT_open (okK_mem (okT_open hk).2 t.kids[i] (List.getElem_mem hi))
  rw [get_at l t _ (by omega) (by omega) 5 (.inr (.inr (.inr rfl))) h1, get_at l t _ (by omega) (by omega) 0 (.inl rfl) h1]
  refine ⟨?_, by omega, o4⟩
  show partS l t.kids[i].hd.1 t.kids[i].hd.2 ++ partS l t.kids[i].bd.1 t.kids[i].bd.2 = _
  rw [o2]
  exact part_two l (by omega) o3
theorem kid_none {l : List UInt8} {t : Tr} (h : t.kind = 1) (n : Nat) (hb : t.kids.length + 1 + n ≤ 4294967295) : getL l t ⟨[(t.kids.length : Int) + 1 + (n : Int)], 0, [], false, 0, 0⟩ = [] := by
  have hp : partsM t = t.kids := by unfold partsM; rw [if_pos h]
  exact get_no l t (by omega) (by omega) 0 (.inl rfl) (by rw [hp]; exact nth_high (by omega))
theorem getL_len {l : List UInt8} {t : Tr} (s : Spc) (h : okT l.length t) : (getL l t s).length ≤ 3 * l.length + 2 := by
  have := allL_len s h
  unfold getL
  split
  · unfold cut16
    split
    · simp
    · rw [List.length_take, List.length_drop]
      omega
  · exact this
end Go.Proofs.YteallnjbpikhhaaGreatDoor
