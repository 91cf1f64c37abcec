/- What the row's variables give: the powers of ten, the months, the zones. -/
import Derived.Test.YtpmjlhpbknppiaaDoorRow
import Derived.Test.YtpmjlhpbknppiaaDoorDtL
import Derived.LaidLaws
import Derived.OpenShut
import Derived.Lib.LaidU8
namespace Go.Proofs.YtpmjlhpbknppiaaDoor
open Go Go.RowKit

theorem chunks {α β : Type} (f : α → List β) (hf : ∀ a, (f a).length = 2) : ∀ (l : List α) (cs : List β), cs.length = l.length * 2 → (∀ (i : Nat) (a : α), l[i]? = some a → (cs.drop (i * 2)).take 2 = f a) → cs = l.flatMap f
  | [], cs, h, _ => by
    have : cs.length = 0 := by rw [h]; rfl
    rw [List.length_eq_zero_iff.1 this]
    rfl
  | a :: l, cs, h, hh => by
    have h0 := hh 0 a rfl
    rw [Nat.zero_mul, List.drop_zero] at h0
    have ih := chunks f hf l (cs.drop 2) (by rw [List.length_drop, h, List.length_cons]; omega) (fun i b hb => by
      have := hh (i + 1) b hb
      rw [List.drop_drop]
      rw [show 2 + i * 2 = (i + 1) * 2 by omega]
      exact this)
    rw [List.flatMap_cons, ← ih, ← h0, List.take_append_drop]
theorem si_struct {P : Program} {w : World} {fuel : Nat} {t : TypeId} {f0 f1 : Field} {cs : List Value} {b : List UInt8} {z : Int} {p : List MemPlace} (ht : P.underlying t = some (.struct #[f0, f1])) (h0 : P.underlying f0.type = some .string) (h1 : P.underlying f1.type = some (.int .i64)) (o0 : f0.offset = 0) (o1 : f1.offset = 1) (c0 : P.cellsOf f0.type = 1) (c1 : P.cellsOf f1.type = 1) (hct : P.cellsOf t = 2)
    (h : DataW.trod (fun _ => ()) P w 0 (fun _ => true) false fuel t cs = some (.agg [.lit (.string b), .lit (.int .i64 z)], p)) : cs = [.string ⟨b.toArray⟩, .int .i64 z] := by
  obtain ⟨xs, n, rfl, hx, hl, hxl, hall⟩ := DataW.trod_struct ht h
  have e0 := hall 0 f0 rfl
  have e1 := hall 1 f1 rfl
  rw [o0, c0] at e0
  rw [o1, c1] at e1
  rw [hct] at hl
  have hxl' : xs.length = 2 := hxl
  match xs, hxl', hx, e0, e1 with
  | [x, y], _, hx, e0, e1 =>
    obtain ⟨s, hs, rfl, _⟩ := DataW.trod_string h0 (x := x) e0
    obtain ⟨k, hk, rfl, _⟩ := DataW.trod_int h1 (x := y) e1
    have hx1 := congrArg Prod.fst hx
    have hx2 : b = s.data.toList ∧ z = k := by simpa using hx1
    match cs, hl, hs, hk with
    | [u, v], _, hs, hk =>
      have hu : [u] = [Value.string s] := hs
      have hv : [v] = [Value.int .i64 k] := hk
      rw [List.singleton_inj] at hu hv
      rw [hu, hv, hx2.1, hx2.2]
theorem si_array {P : Program} {w : World} {fuel : Nat} {t e : TypeId} {f0 f1 : Field} {cs : List Value} {p : List MemPlace} (l : List (List UInt8 × Int)) (hta : P.underlying t = some (.array l.length e)) (hca : P.cellsOf t = l.length * 2) (ht : P.underlying e = some (.struct #[f0, f1])) (h0 : P.underlying f0.type = some .string) (h1 : P.underlying f1.type = some (.int .i64)) (o0 : f0.offset = 0) (o1 : f1.offset = 1) (c0 : P.cellsOf f0.type = 1) (c1 : P.cellsOf f1.type = 1) (hct : P.cellsOf e = 2)
    (h : DataW.trod (fun _ => ()) P w 0 (fun _ => true) false fuel t cs = some (.agg (l.map fun m => .agg [.lit (.string m.1), .lit (.int .i64 m.2)]), p)) : cs = l.flatMap fun m => [.string ⟨m.1.toArray⟩, .int .i64 m.2] := by
  obtain ⟨xs, n, rfl, hx, hl, hxl, hall⟩ := DataW.trod_array hta h
  rw [hct] at hall
  refine chunks _ (fun _ => rfl) l cs (hl.trans hca) (fun i a ha => ?_)
  have hi : i < l.length := (List.getElem?_eq_some_iff.1 ha).1
  have h3 := hall i hi
  have hx1 := congrArg Prod.fst hx
  have hx2 : (l.map fun m => (DataW.agg [.lit (.string m.1), .lit (.int .i64 m.2)] : DataW Unit)) = xs.map (·.1) := by simpa using hx1
  have hx3 := congrArg (·[i]?) hx2
  simp only [List.getElem?_map, ha, Option.map_some] at hx3
  obtain ⟨q, hq⟩ : ∃ q, xs[i]? = some q := ⟨xs[i]'(by omega), List.getElem?_eq_getElem (by omega)⟩
  rw [hq] at hx3 h3
  obtain ⟨q1, q2⟩ := q
  have hx4 := Option.some.inj hx3
  simp only at hx4
  subst hx4
  exact si_struct ht h0 h1 o0 o1 c0 c1 hct h3
theorem gPow10 : Tryd.prog.globalNamed "internal/strconv.uint64pow10" = some 3 := by kernel_rfl
theorem gPow10Type : (Tryd.prog.globals[3]?).map (·.type) = some 116 := by kernel_rfl
theorem cellsPow10 : Tryd.prog.cellsOf 116 = 20 := by kernel_rfl
theorem cellsU64 : Tryd.prog.cellsOf 102 = 1 := by kernel_rfl
theorem gMon : Tryd.prog.globalNamed "letterbox/date.months" = some 0 := by kernel_rfl
theorem gMonType : (Tryd.prog.globals[0]?).map (·.type) = some 64 := by kernel_rfl
theorem gZon : Tryd.prog.globalNamed "letterbox/date.zones" = some 1 := by kernel_rfl
theorem gZonType : (Tryd.prog.globals[1]?).map (·.type) = some 75 := by kernel_rfl
theorem cellsStr : Tryd.prog.cellsOf 9 = 1 := by kernel_rfl
theorem cellsInt : Tryd.prog.cellsOf 3 = 1 := by kernel_rfl
theorem cellsYm : Tryd.prog.cellsOf 63 = 2 := by kernel_rfl
theorem cellsNz : Tryd.prog.cellsOf 74 = 2 := by kernel_rfl
theorem cellsYms : Tryd.prog.cellsOf 64 = 24 := by kernel_rfl
theorem cellsNzs : Tryd.prog.cellsOf 75 = 16 := by kernel_rfl
theorem var_heap {P : Program} {w : World} {n : String} {g : Nat} {cs : Array Value} (hg : P.globalNamed n = some g) (h : w.var? P n = some cs) : ∃ t fr, w.heap[g]? = some (.cells cs t fr) := by
  simp only [World.var?, hg, Option.bind_some] at h
  split at h
  · rename_i c t fr hh
    cases h
    exact ⟨t, fr, hh⟩
  · cases h
theorem laid_plain {W : World} (h : laidMetH Tryd.prog Rows.dateParsesRow.laid W) : laidMet Tryd.prog Rows.dateParsesRow.laid W := h
theorem mons_of_laid {W : World} (h : laidMet Tryd.prog Rows.dateParsesRow.laid W) : mons W := by
  obtain ⟨g, t, cs, fuel, p, hg, ht, hv, hd⟩ := Lib.laidMet.reads h (n := "letterbox/date.months") (d := Rows.laid_letterbox_date_months) (by exact .tail _ (.tail _ (.tail _ (.head _))))
  obtain rfl := Option.some.inj (gMon.symm.trans hg)
  obtain rfl := Option.some.inj (gMonType.symm.trans ht)
  have hc := si_array (monthsL.map fun m => (m.1, (m.2 : Int))) Tryd.underlying64 cellsYms Tryd.underlying63 Tryd.underlying9 Tryd.underlying3 rfl rfl cellsStr cellsInt cellsYm hd
  obtain ⟨l⟩ := cs
  have hl : l = _ := hc
  obtain ⟨t, fr, hh⟩ := var_heap gMon hv
  refine ⟨t, fr, ?_⟩
  rw [hh, hl]
  rfl
theorem zons_of_laid {W : World} (h : laidMet Tryd.prog Rows.dateParsesRow.laid W) : zons W := by
  obtain ⟨g, t, cs, fuel, p, hg, ht, hv, hd⟩ := Lib.laidMet.reads h (n := "letterbox/date.zones") (d := Rows.laid_letterbox_date_zones) (by exact .tail _ (.tail _ (.tail _ (.tail _ (.head _)))))
  obtain rfl := Option.some.inj (gZon.symm.trans hg)
  obtain rfl := Option.some.inj (gZonType.symm.trans ht)
  have hc := si_array zonesL Tryd.underlying75 cellsNzs Tryd.underlying74 Tryd.underlying9 Tryd.underlying3 rfl rfl cellsStr cellsInt cellsNz hd
  obtain ⟨l⟩ := cs
  have hl : l = _ := hc
  obtain ⟨t, fr, hh⟩ := var_heap gZon hv
  refine ⟨t, fr, ?_⟩
  rw [hh, hl]
  rfl
theorem env_of_laid {W : World} (h : laidMetH Tryd.prog Rows.dateParsesRow.laid W) : envD W :=
  ⟨mons_of_laid (laid_plain h), zons_of_laid (laid_plain h), Lib.tabIs_of_head (rest := _) gPow10 gPow10Type Tryd.underlying116 Tryd.underlying102 cellsU64 cellsPow10 (laidMet.tail (laidMet.tail (laid_plain h)))⟩
end Go.Proofs.YtpmjlhpbknppiaaDoor
