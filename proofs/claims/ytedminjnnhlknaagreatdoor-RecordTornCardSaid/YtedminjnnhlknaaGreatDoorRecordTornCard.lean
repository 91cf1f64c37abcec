/- RecordTorn (whatever the input the law answers true and its arguments read as before): the contract lifted to the given row, and its card. Condition: none beyond the row's own. -/
import Derived.Test.YtedminjnnhlknaaGreatDoorRow
import Derived.Test.YtedminjnnhlknaaGreatDoorGbParU
import Derived.Test.YtedminjnnhlknaaGreatDoorGbRcW
import Derived.LaidLaws
import Derived.LaidHandle
import Derived.Lib.LaidU8
import Derived.Test.YtedminjnnhlknaaGreatDoorGbReP
namespace Go.Proofs.YtedminjnnhlknaaGreatDoor
open Go Go.RowKit
theorem gPow10 : Tryz.prog.globalNamed "internal/strconv.uint64pow10" = some 6 := by kernel_rfl
theorem gPow10Type : (Tryz.prog.globals[6]?).map (·.type) = some 292 := by kernel_rfl
theorem cellsPow10 : Tryz.prog.cellsOf 292 = 20 := by kernel_rfl
theorem cellsU64 : Tryz.prog.cellsOf 72 = 1 := by kernel_rfl
theorem gErrSyn : Tryz.prog.globalNamed "strconv.ErrSyntax" = some 4 := by kernel_rfl
theorem gErrSynType : (Tryz.prog.globals[4]?).map (·.type) = some 61 := by kernel_rfl
theorem gErrT : Tryz.prog.globalNamed "errors.errorType" = some 0 := by kernel_rfl
theorem rtT : (Tryz.prog.cutTypes.find? (·.1 == "internal/reflectlite.rtype")).map (·.2) = some 191 := by kernel_rfl
theorem oneErr : ((List.range 325).filter fun t => Tryz.prog.rowNamed t [101, 114, 114, 111, 114]) = [61] := by kernel_rfl
theorem typesN : Tryz.prog.types.size = 325 := by kernel_rfl
theorem laid_two {W : World} (h : laidMetH Tryz.prog Rows.recordTornRow.laid W) : laidMet Tryz.prog [("math/bits.deBruijn32tab", Rows.laid_math_bits_deBruijn32tab), ("math/bits.deBruijn64tab", Rows.laid_math_bits_deBruijn64tab), ("internal/strconv.uint64pow10", Rows.laid_internal_strconv_uint64pow10), ("unicode/utf8.acceptRanges", Rows.laid_unicode_utf8_acceptRanges), ("strconv.ErrRange", Rows.laid_strconv_ErrRange), ("strconv.ErrSyntax", Rows.laid_strconv_ErrSyntax), ("unicode/utf8.first", Rows.laid_unicode_utf8_first)] W ∧ handlesMet Tryz.prog [("errors.errorType", Rows.laid_errors_errorType)] W := h
theorem errAt_of_laid {W : World} (h : laidMetH Tryz.prog Rows.recordTornRow.laid W) : errAt W := by
 obtain ⟨g, t, cs, fuel, p, hg, ht, hv, hd⟩ := Lib.laidMet.reads (laid_two h).1 (n := "strconv.ErrSyntax") (d := Rows.laid_strconv_ErrSyntax) (by exact .tail _ (.tail _ (.tail _ (.tail _ (.tail _ (.head _))))))
 obtain rfl := Option.some.inj (gErrSyn.symm.trans hg)
 obtain rfl := Option.some.inj (gErrSynType.symm.trans ht)
 obtain ⟨l⟩ := cs
 obtain ⟨f1, u, v, hl, _, _⟩ := iface_of_trod Tryz.underlying61 hd
 have hl' : l = [.iface u v] := hl
 subst hl'
 exact ⟨u, v, World.var?_cell gErrSyn hv 0⟩
theorem errG_of_laid {W : World} (h : laidMetH Tryz.prog Rows.recordTornRow.laid W) : errG W := by
 obtain ⟨name, u, ty, e1, e2, e3, e4, e5⟩ := (laid_two h).2 _ (List.mem_singleton.2 rfl)
 have en : name = [101, 114, 114, 111, 114] := (Option.some.inj e1).symm
 subst en
 obtain rfl := Option.some.inj (rtT.symm.trans e2)
 have hm : ty ∈ (List.range 325).filter fun t => Tryz.prog.rowNamed t [101, 114, 114, 111, 114] := List.mem_filter.2 ⟨List.mem_range.2 (by rw [← typesN]; exact e3), e4⟩
 rw [oneErr] at hm
 obtain rfl := List.mem_singleton.1 hm
 have hh : typeHandle Tryz.prog 61 = .pointer (some ⟨9, 61, none⟩) := by kernel_rfl
 rw [hh] at e5
 have := World.var?_cell gErrT e5 0
 simpa [errG] using this
theorem env_of_laid {W : World} (h : laidMetH Tryz.prog Rows.recordTornRow.laid W) : env W :=
 ⟨Lib.tabIs_of_head (rest := _) gPow10 gPow10Type Tryz.underlying292 Tryz.underlying72 cellsU64 cellsPow10 (laidMet.tail (laidMet.tail (laid_two h).1)), errAt_of_laid h⟩
end Go.Proofs.YtedminjnnhlknaaGreatDoor
namespace Go.Proofs.YtedminjnnhlknaaGreatDoor.recordTorn
open Go Go.RowKit Go.ChangeShapes Go.WideShapes Go.ChangeAt
theorem row_cellsU8 : Tryz.prog.cellsOf 5 = 1 := by kernel_rfl
set_option maxRecDepth 100000 in
theorem contract (H : Type) (enc : TypeId × Value → H) (W : World) (base : Nat) (args : Array Value) (ds gs : List (DataW H)) (before : List MemPlace)
  (hval0 : ∀ (j : Nat) t v, Tryz.f3.params[j]? = some t → args[j]? = some v → Value.okWide Tryz.prog W .any base t v)
  (hW : DataW.Whole enc Tryz.prog Tryz.f3.params.toList Rows.recordTornSpec.vars false W args.toList ds gs before) (hL : laidMetH Tryz.prog Rows.recordTornRow.laid W) :
  Calls Tryz.prog 3 args W fun e W' => ∃ v, e = .returned v ∧ Rows.recordTornSpec.post enc Tryz.prog Tryz.f3 false true false false W args v W' := by
 have hW' := hW
 obtain ⟨p, q, hA0, hV, hpq, hfz, hnd⟩ := hW
 have hA : DataW.TrodAll enc Tryz.prog W 0 (fun _ => true) true Tryz.f3.params.toList args.toList ds p := hA0
 have hval : ∀ (j : Nat) t v, Tryz.f3.params[j]? = some t → args[j]? = some v → Value.okWide Tryz.prog W .any base t v := hval0
 rw [Tryz.params3] at hA hval
 obtain ⟨v0, vs0, d0, ds0, p0, q0, hargs, rfl, rfl, h0, r0⟩ := trodAll_cons hA
 obtain ⟨v1, vs1, d1, ds1, p1, q1, rfl, rfl, rfl, h1, r1⟩ := trodAll_cons r0
 obtain ⟨v2, vs2, d2, ds2, p2, q2, rfl, rfl, rfl, h2, r2⟩ := trodAll_cons r1
 obtain ⟨v3, vs3, d3, ds3, p3, q3, rfl, rfl, rfl, h3, r3⟩ := trodAll_cons r2
 obtain ⟨v4, vs4, d4, ds4, p4, q4, rfl, rfl, rfl, h4, r4⟩ := trodAll_cons r3
 obtain ⟨rfl, rfl, rfl⟩ := trodAll_nil r4
 obtain rfl : args = #[v0, v1, v2, v3, v4] := by cases args; simp_all
 clear hA0 hA hval0 hargs
 obtain ⟨l0, hb0⟩ := bytesArg_open Tryz.underlying22 Tryz.underlying5 row_cellsU8 (hval 0 22 v0 rfl rfl) h0
 obtain ⟨y1, rfl, rfl, rfl, wf1⟩ := open_int Tryz.underlying23 (hval 1 23 v1 rfl rfl) h1
 have bd1 := bounds_u16 wf1
 obtain ⟨x1, rfl⟩ : ∃ n : Nat, y1 = (n : Int) := ⟨y1.toNat, by omega⟩
 obtain ⟨y2, rfl, rfl, rfl, wf2⟩ := open_int Tryz.underlying24 (hval 2 24 v2 rfl rfl) h2
 have bd2 := bounds_u32 wf2
 obtain ⟨x2, rfl⟩ : ∃ n : Nat, y2 = (n : Int) := ⟨y2.toNat, by omega⟩
 obtain ⟨y3, rfl, rfl, rfl, wf3⟩ := open_int Tryz.underlying23 (hval 3 23 v3 rfl rfl) h3
 have bd3 := bounds_u16 wf3
 obtain ⟨x3, rfl⟩ : ∃ n : Nat, y3 = (n : Int) := ⟨y3.toNat, by omega⟩
 obtain ⟨l4, hb4⟩ := bytesArg_open Tryz.underlying22 Tryz.underlying5 row_cellsU8 (hval 4 22 v4 rfl rfl) h4
 have walk : Calls Tryz.prog 3 #[v0, .int .u16 (x1 : Int), .int .u32 (x2 : Int), .int .u16 (x3 : Int), v4] W fun e w' => e = .returned (.bool true) ∧ Below W.heap.size W w' :=
  recordTorn_any v0 l0 x1 x2 x3 v4 l4 W hb0 hb4 (by omega) (by omega) (by omega) (env_of_laid hL) (errG_of_laid hL)
 refine walk.mono fun e W' ⟨he, hb⟩ => ?_
 subst he
 refine ⟨_, rfl, law_post row_laidOut hW' hb rfl (bt := 4) (by kernel_rfl) Tryz.underlying4 ?_ ?_⟩
 ·intro t ht
  rw [Tryz.params3] at ht
  simp only [List.mem_cons, List.not_mem_nil, or_false] at ht
  rcases ht with rfl | rfl | rfl | rfl | rfl <;> exact ⟨by kernel_rfl, of_decide_eq_true (by kernel_rfl)⟩
 ·rintro rfl
  exact ⟨rfl, rfl, rfl⟩
theorem laidMet_laidOn {P : Program} {w0 : World} {laid : List (String × DataW Unit)} (args : Array Value) (hf : w0.layFits P laid [] = true) (hi : w0.layIfaces P laid (w0.layVars P laid) = true) :
  laidMet P laid ((w0.layVars P laid).forCall (fun _ _ => 0) ⟨#[], args, []⟩).memory := by
 have e1 : (laid.filter fun x => (laid.map (·.1)).contains x.1) = laid := List.filter_eq_self.2 fun x hx => List.contains_iff_mem.2 (List.mem_map.2 ⟨x, hx, rfl⟩)
 have e2 : (laid.filter fun x => !(laid.map (·.1)).contains x.1) = [] := List.filter_eq_nil_iff.2 fun x hx => by rw [List.contains_iff_mem.2 (List.mem_map.2 ⟨x, hx, rfl⟩)]; simp
 have h : laidMet P laid (w0.layVars P laid) := laidMet_layVars (w0 := w0) (laid.map (·.1)) [] (by rw [e1]) (by rw [e1]; exact hf) (by rw [e1]; exact hi) (by rw [e2]; exact LaidIn.none)
 exact h.of_heap (by simp [World.memory, World.forCall, Input.heap])
noncomputable def heldWorld (os : Os) : World :=
 let w0 := World.holding Tryz.prog os ⟨#[], #[], []⟩
 { w0 with heap := w0.heap.modify 0 fun
   | .cells _ t frozen => .cells #[.iface 191 (.agg #[.pointer (some ⟨9, 61, none⟩)])] t frozen
   | o => o }
noncomputable def laidWorld (os : Os) : World := (heldWorld os).layVars Tryz.prog (Rows.recordTornRow.laid.filter fun x => x.2.handleName?.isNone)
theorem laid_met (os : Os) : laidMetH Tryz.prog Rows.recordTornRow.laid ((laidWorld os).forCall (fun _ _ => 0) ⟨#[], #[.slice none 0 0, .int .u16 0, .int .u32 0, .int .u16 0, .slice none 0 0], []⟩).memory :=
 laidMetH_of_parts (laidMet_laidOn _ (by kernel_rfl) (by kernel_rfl)) (by kernel_rfl)
theorem reads (os : Os) {H : Type} (enc : TypeId × Value → H) : ∃ places, DataW.whole enc Tryz.prog ((laidWorld os).forCall (fun _ _ => 0) ⟨#[], #[.slice none 0 0, .int .u16 0, .int .u32 0, .int .u16 0, .slice none 0 0], []⟩).memory Tryz.f3.params.toList Rows.recordTornSpec.vars false (#[.slice none 0 0, .int .u16 0, .int .u32 0, .int .u16 0, .slice none 0 0] : Array Value).toList 8 = some ([.nil, .lit (.int .u16 0), .lit (.int .u32 0), .lit (.int .u16 0), .nil], [], places) :=
 ⟨[], by kernel_rfl⟩
set_option maxRecDepth 100000 in
theorem lifted (os : Os) (started : os.Started) (H : Type) (enc : TypeId × Value → H) (F : Stop.Interp) :
  ReturnsInHanded {} Tryz.checked os 3 .any ((OpenSpec.ofChange Rows.recordTornSpec).preRow enc Tryz.prog Tryz.f3 Rows.recordTornRow.domain false Rows.recordTornRow.laid) (((OpenSpec.ofChange Rows.recordTornSpec).at F).post enc Tryz.prog Tryz.f3 false true false false) := by
 obtain ⟨places, hx⟩ := reads os enc
 refine returnsInHanded_of_row (C := Tryz.checked) (s := OpenSpec.ofChange Rows.recordTornSpec) row_own started (by kernel_rfl) Tryz.func3
  (witness_row_at (enc := enc) (C := Tryz.checked) false (laidWorld os) #[.slice none 0 0, .int .u16 0, .int .u32 0, .int .u16 0, .slice none 0 0] (World.layVars_os _ _ _) (by kernel_rfl) (by kernel_rfl) (by kernel_rfl)
   (OpenSpec.preRow_of_cond 8 hx (by kernel_rfl) (fun k hk => by cases hk) (by kernel_rfl) (laid_met os))) ?_
 intro W base args ds gs before hval hW _ _ _ hL _ _
 exact contract H enc W base args ds gs before hval hW hL
theorem said : Rows.RecordTornSaid :=
 OpenClaim.holds_of_cond 3 Tryz.f3 rfl rfl rfl rfl rfl rfl rfl ⟨rfl, rfl, rfl, rfl, rfl⟩ rfl rfl rfl rfl rfl (by kernel_rfl) Tryz.func3 (by kernel_rfl)
  (of_decide_eq_true (by kernel_rfl)) (by unfold Func.isWrapper; rw [if_neg (of_decide_eq_false (by kernel_rfl))]; exact ⟨rfl, rfl⟩)
  (fun os started H enc _ F => by rw [OpenClaim.pre_eq_preRow]; exact lifted os started H enc F)
theorem plain (f : FuncId) (fn : Func) (hf : Tryz.pinned.checked.prog.funcNamed "letterbox/letterboxlaw14.RecordTorn" = some f) (hfn : Tryz.pinned.checked.prog.funcs[f]? = some fn) :
  true = Tryz.pinned.checked.prog.looks [] ∧ ∀ (j : Nat) t, fn.params[j]? = some t → Tryz.pinned.checked.prog.wantsStandIn t = false := by
 obtain rfl : f = 3 := Option.some.inj ((show Tryz.prog.funcNamed "letterbox/letterboxlaw14.RecordTorn" = some 3 by kernel_rfl).symm.trans hf) |>.symm
 obtain rfl : fn = Tryz.f3 := (Option.some.inj (Tryz.func3.symm.trans hfn)).symm
 refine ⟨by kernel_rfl, fun j t ht => ?_⟩
 rw [Tryz.params3] at ht
 have ht' := Array.mem_of_getElem? ht
 simp only [List.mem_toArray, List.mem_cons, List.not_mem_nil, or_false] at ht'
 rcases ht' with rfl | rfl | rfl | rfl | rfl
 ·exact (show Tryz.prog.wantsStandIn 22 = false by kernel_rfl)
 ·exact (show Tryz.prog.wantsStandIn 23 = false by kernel_rfl)
 ·exact (show Tryz.prog.wantsStandIn 24 = false by kernel_rfl)
 ·exact (show Tryz.prog.wantsStandIn 23 = false by kernel_rfl)
 ·exact (show Tryz.prog.wantsStandIn 22 = false by kernel_rfl)
theorem card : Rows.RecordTornCardSaid :=
 Claim7.holds_tied_plain_at .later [] _ _ _ _ said (fun _ h => by cases h) (by kernel_rfl) (fun _ h => by cases h) recordTorn_row_tie rfl ⟨rfl, rfl⟩ (by kernel_rfl) rfl plain (by kernel_rfl)
end Go.Proofs.YtedminjnnhlknaaGreatDoor.recordTorn
