/- What the row's variables give: the powers of ten, the words. -/
import Derived.Test.YthcleaflhljdlaaGreatDoorRow
import Derived.Test.YthcleaflhljdlaaGreatDoorSeS
import Derived.LaidLaws
import Derived.OpenShut
import Derived.Lib.LaidU8
namespace Go.Proofs.YthcleaflhljdlaaGreatDoor
open Go Go.RowKit

theorem chunks1 {α β : Type} (f : α → β) : ∀ (l : List α) (cs : List β), cs.length = l.length → (∀ (i : Nat) (a : α), l[i]? = some a → (cs.drop (i * 1)).take 1 = [f a]) → cs = l.map f
  | [], cs, h, _ => List.length_eq_zero_iff.1 h
  | a :: l, cs, h, hh => by
    have h0 := hh 0 a rfl
    rw [Nat.zero_mul, List.drop_zero] at h0
    have ih := chunks1 f l (cs.drop 1) (by rw [List.length_drop, h, List.length_cons]; omega) (fun i b hb => by
      have := hh (i + 1) b hb
      rw [List.drop_drop]
      rw [show 1 + i * 1 = (i + 1) * 1 by omega]
      exact this)
    rw [List.map_cons, ← ih]
    have := List.take_append_drop 1 cs
    rw [h0] at this
    exact this.symm
theorem s_array {P : Program} {w : World} {fuel : Nat} {t e : TypeId} {cs : List Value} {p : List MemPlace} (l : List (List UInt8)) (hta : P.underlying t = some (.array l.length e)) (hca : P.cellsOf t = l.length) (he : P.underlying e = some .string) (hce : P.cellsOf e = 1)
    (h : DataW.trod (fun _ => ()) P w 0 (fun _ => true) false fuel t cs = some (.agg (l.map fun m => .lit (.string m)), p)) : cs = l.map fun m => .string ⟨m.toArray⟩ := by
  obtain ⟨xs, n, rfl, hx, hl, hxl, hall⟩ := DataW.trod_array hta h
  rw [hce] at hall
  refine chunks1 _ l cs (hl.trans hca) (fun i a ha => ?_)
  have hi : i < l.length := (List.getElem?_eq_some_iff.1 ha).1
  have h3 := hall i hi
  have hx1 := congrArg Prod.fst hx
  have hx2 : (l.map fun m => (DataW.lit (.string m) : DataW Unit)) = xs.map (·.1) := by simpa using hx1
  have hx3 := congrArg (·[i]?) hx2
  simp only [List.getElem?_map, ha, Option.map_some] at hx3
  obtain ⟨q, hq⟩ : ∃ q, xs[i]? = some q := ⟨xs[i]'(by omega), List.getElem?_eq_getElem (by omega)⟩
  rw [hq] at hx3 h3
  obtain ⟨q1, q2⟩ := q
  have hx4 := Option.some.inj hx3
  simp only at hx4
  subst hx4
  obtain ⟨s, hs, he2, _⟩ := DataW.trod_string he (x := (DataW.lit (.string a), q2)) h3
  have he3 : a = s.data.toList ∧ q2 = [] := by simpa using he2
  rw [hs, he3.1]
theorem var_heap {P : Program} {w : World} {n : String} {g : Nat} {cs : Array Value} (hg : P.globalNamed n = some g) (h : w.var? P n = some cs) : ∃ t fr, w.heap[g]? = some (.cells cs t fr) := by
  simp only [World.var?, hg, Option.bind_some] at h
  split at h
  · rename_i c t fr hh
    cases h
    exact ⟨t, fr, hh⟩
  · cases h
theorem gPow10 : Tryz.prog.globalNamed "internal/strconv.uint64pow10" = some 2 := by kernel_rfl
theorem gPow10Type : (Tryz.prog.globals[2]?).map (·.type) = some 125 := by kernel_rfl
theorem cellsPow10 : Tryz.prog.cellsOf 125 = 20 := by kernel_rfl
theorem cellsU64 : Tryz.prog.cellsOf 45 = 1 := by kernel_rfl
theorem gWrd : Tryz.prog.globalNamed "letterbox/section.words" = some 0 := by kernel_rfl
theorem gWrdType : (Tryz.prog.globals[0]?).map (·.type) = some 72 := by kernel_rfl
theorem cellsWrd : Tryz.prog.cellsOf 72 = 6 := by kernel_rfl
theorem cellsStr : Tryz.prog.cellsOf 9 = 1 := by kernel_rfl
theorem laid_plain {W : World} (h : laidMetH Tryz.prog Rows.sectionParsesRow.laid W) : laidMet Tryz.prog Rows.sectionParsesRow.laid W := h
theorem wrds_of_laid {W : World} (h : laidMet Tryz.prog Rows.sectionParsesRow.laid W) : wrds W := by
  obtain ⟨g, t, cs, fuel, p, hg, ht, hv, hd⟩ := Lib.laidMet.reads h (n := "letterbox/section.words") (d := Rows.laid_letterbox_section_words) (by exact .tail _ (.tail _ (.tail _ (.head _))))
  obtain rfl := Option.some.inj (gWrd.symm.trans hg)
  obtain rfl := Option.some.inj (gWrdType.symm.trans ht)
  have hc := s_array [wordL 0, wordL 1, wordL 2, wordL 3, wordL 4, wordL 5] Tryz.underlying72 cellsWrd Tryz.underlying9 cellsStr hd
  obtain ⟨l⟩ := cs
  have hl : l = _ := hc
  obtain ⟨t, fr, hh⟩ := var_heap gWrd hv
  refine ⟨t, fr, ?_⟩
  rw [hh, hl]
  rfl
theorem env_of_laid {W : World} (h : laidMetH Tryz.prog Rows.sectionParsesRow.laid W) : env W :=
  ⟨Lib.tabIs_of_head (rest := _) gPow10 gPow10Type Tryz.underlying125 Tryz.underlying45 cellsU64 cellsPow10 (laidMet.tail (laidMet.tail (laid_plain h))), wrds_of_laid (laid_plain h)⟩
end Go.Proofs.YthcleaflhljdlaaGreatDoor
