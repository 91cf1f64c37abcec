/- Layer 20: contracts of package structure: a strings.Builder that stands within a teller. -/
import Derived.Test.YtkmgflnmffdhjaaGreatDoorGbAdM
import Derived.Shelf.Strings.BuilderK
import Derived.Test.YtkmgflnmffdhjaaGreatDoorGbEnA
import Derived.Test.YtkmgflnmffdhjaaGreatDoorGbEnC
import Derived.Test.YtkmgflnmffdhjaaGreatDoorGbEnF
import Derived.Test.YtkmgflnmffdhjaaGreatDoorGbStN
namespace Go.Proofs.YtkmgflnmffdhjaaGreatDoor
open Go Go.RowKit

/-- A teller, in a block of its own: the bytes, whether all is told, and what was told so far. -/
def TlAt (B T : Nat) (vb : Value) (all : Bool) (bs : List Value) (W : World) : Prop :=
  B ≤ T ∧ ∃ p v, (p = .pointer none ∨ p = .pointer (some ⟨T, 2, none⟩)) ∧ W.heap[T]? = some (.cells #[vb, .bool all, p, v] 55 (0, 0)) ∧ W.ownsRow B 5 1 v bs.length bs ∧ v.ownBlock ≠ some T
theorem TlAt.lt {B T : Nat} {vb : Value} {all : Bool} {bs : List Value} {W : World} (h : TlAt B T vb all bs W) : T < W.heap.size := by
  obtain ⟨_, p, v, _, hb, _⟩ := h
  exact (Array.getElem?_eq_some_iff.1 hb).1
theorem TlAt.below {B T : Nat} {vb : Value} {all : Bool} {bs : List Value} {W W' : World} (h : TlAt B T vb all bs W) (hb : Below W.heap.size W W') : TlAt B T vb all bs W' := by
  have hlt := h.lt
  obtain ⟨hB, p, v, hp, hbk, hown, hne⟩ := h
  exact ⟨hB, p, v, hp, (hb.block T hlt).trans hbk, hown.kept (row := none) ⟨hb.1, hb.2, hb.3, hb.size, fun k hk _ => hb.block k hk⟩ (by cases v.ownBlock <;> simp), hne⟩
/-- What stays: all that lay below the base, and all but the teller and rows of bytes. -/
def Kq (B T : Nat) (W W' : World) : Prop := Below B W W' ∧ Lib.OthersKept 5 (some T) W W'
theorem Kq.refl (B T : Nat) (W : World) : Kq B T W W := ⟨Below.refl _ _, Lib.OthersKept.refl _ _ _⟩
theorem others_below {t : TypeId} {T : Option Nat} {W W' : World} (h : Below W.heap.size W W') : Lib.OthersKept t T W W' := by
  intro g o ho _ _
  exact (h.block g (Array.getElem?_eq_some_iff.1 ho).1).trans ho
theorem liesBu : liesAt Tryz.prog Tryz.prog.depth 55 (4 / Tryz.prog.cellsOf 55) 2 53 1 = true := by kernel_rfl
theorem infoBu : (Tryz.prog.info? 53).map (fun i => i.size) = some 2 := by kernel_rfl
set_option maxRecDepth 100000 in
theorem check_used (T : Nat) (w : World) (h0 : w.cell? ⟨T, 2, none⟩ = some (.pointer (some ⟨T, 2, none⟩))) :
    Calls Tryz.prog 87 #[.pointer (some ⟨T, 2, none⟩)] w fun e w' => e = .returned (.tuple #[]) ∧ w' = w := by
  obtain ⟨j, hj, _⟩ := Option.map_eq_some_iff.1 infoBu
  go_enter Tryz.func87, Tryz.ntmps87
  go_wp2
  rw [Lib.run_neq_ptr_same w _ Tryz.underlying51 hj]
  go_wp2
  go_end0
  exact ⟨rfl, rfl⟩
set_option maxRecDepth 100000 in
theorem check_fresh (T : Nat) (w : World) (h0 : w.cell? ⟨T, 2, none⟩ = some (.pointer none)) (hsh : w.shape? T = some (55, 4)) (hfz : w.frozen? ⟨T, 2, none⟩ = false) :
    Calls Tryz.prog 87 #[.pointer (some ⟨T, 2, none⟩)] w fun e w' => e = .returned (.tuple #[]) ∧ w' = w.setCell ⟨T, 2, none⟩ (.pointer (some ⟨T, 2, none⟩)) := by
  obtain ⟨j, hj, hjs⟩ := Option.map_eq_some_iff.1 infoBu
  go_enter Tryz.func87, Tryz.ntmps87
  go_wp2
  rw [Lib.run_to_unsafe w ⟨T, 2, none⟩ Tryz.underlying51 Tryz.underlying182 hj (by rw [hjs]; decide) hsh (show (2 : Nat) < 4 by decide)]
  simp only [Result.andThen]
  rw [Oper.upon_value]
  go_wp2
  rw [run_callFunc_extern Tryz.func120 (by kernel_rfl) (by kernel_rfl) (by kernel_rfl) (e := Extern.AbiNoEscape.same) (by kernel_rfl)]
  rw [Lib.run_noEscape]
  simp only [Result.andThen]
  rw [Oper.upon_value]
  go_wp2
  rw [Lib.run_from_unsafe w ⟨T, 2, none⟩ Tryz.underlying182 Tryz.underlying51 hj hsh liesBu]
  simp only [Result.andThen]
  rw [Oper.upon_value]
  go_wp2
  go_end0
  exact ⟨rfl, rfl⟩
/-- The teller, used. -/
def TlUs (B T : Nat) (vb : Value) (all : Bool) (bs : List Value) (W : World) : Prop :=
  B ≤ T ∧ ∃ v, W.heap[T]? = some (.cells #[vb, .bool all, .pointer (some ⟨T, 2, none⟩), v] 55 (0, 0)) ∧ W.ownsRow B 5 1 v bs.length bs ∧ v.ownBlock ≠ some T
theorem check_any (B T : Nat) (vb : Value) (all : Bool) (bs : List Value) (w : World) (h : TlAt B T vb all bs w) :
    Calls Tryz.prog 87 #[.pointer (some ⟨T, 2, none⟩)] w fun e w' => e = .returned (.tuple #[]) ∧ TlUs B T vb all bs w' ∧ Kq B T w w' := by
  obtain ⟨hB, p, v, hp, hbk, hown, hne⟩ := h
  rcases hp with rfl | rfl
  · refine (check_fresh T w (by simp [World.cell?, hbk]) (by simp [World.shape?, hbk]) (by simp [World.frozen?, hbk])).mono ?_
    rintro e w' ⟨rfl, rfl⟩
    refine ⟨rfl, ⟨hB, v, by simp [World.setCell, Array.getElem?_modify, hbk], ?_, hne⟩, (Below.refl B w).setCell (p := ⟨T, 2, none⟩) hB _, (Lib.OthersKept.refl _ _ w).setCell ⟨T, 2, none⟩ rfl _⟩
    exact hown.kept (row := some T) ⟨rfl, rfl, rfl, by simp [World.setCell], fun k _ hk => Below.heap_setCell _ _ _ _ (fun e => hk (by simp [e]))⟩ (Or.inr hne)
  · refine (check_used T w (by simp [World.cell?, hbk])).mono ?_
    rintro e w' ⟨rfl, rfl⟩
    exact ⟨rfl, ⟨hB, v, hbk, hown, hne⟩, Kq.refl _ _ _⟩
theorem teller_ne : 55 ≠ 5 := by decide
theorem own_kind {w : World} {B : Nat} {e : TypeId} {v : Value} {n : Nat} {xs : List Value} (h : w.ownsRow B e 1 v n xs) : ∀ g, v.ownBlock = some g → ∃ c fz, w.heap[g]? = some (.cells c e fz) := by
  intro g hg
  rcases h.2 with ⟨rfl, _⟩ | ⟨g', cap, cur, rfl, _, hh, _⟩
  · simp [Value.ownBlock] at hg
  · simp only [Value.ownBlock, Option.some.injEq] at hg
    subst hg
    exact ⟨_, _, hh⟩
set_option maxHeartbeats 2000000 in
set_option maxRecDepth 100000 in
theorem write_any (B T : Nat) (vb : Value) (all : Bool) (bs : List Value) (s : ByteArray) (w : World) (h : TlAt B T vb all bs w) (hlen : bs.length + s.size ≤ 140737488355328) (hBw : B ≤ w.heap.size) :
    Calls Tryz.prog 54 #[.pointer (some ⟨T, 2, none⟩), .string s] w fun e w' => e = .returned (.tuple #[.int .i64 s.size, .nilIface]) ∧ TlAt B T vb all (bs ++ Lib.strCells s) w' ∧ Kq B T w w' := by
  obtain ⟨i0, hi, hz0, hz1, hz2⟩ := info_parts Tryz.infoB
  have HC := Lib.hid (check_any B T vb all bs w h)
  go_enter Tryz.func54, Tryz.ntmps54
  go_wp2_with (go_at_call 87; refine HC.out.mono ?_)
  rintro e w1 ⟨rfl, ⟨hB, v, hbk, hown, hne⟩, hb1, hk1⟩
  have c0 : w1.cell? ⟨T, 2, none⟩ = some (.pointer (some ⟨T, 2, none⟩)) := by simp [World.cell?, hbk]
  have c1 : w1.cell? ⟨T, 3, none⟩ = some v := by simp [World.cell?, hbk]
  go_wp2_with (at_builtin; refine Lib.wpList_append_own_string _ rfl _ _ 22 9 rfl B 5 i0 Tryz.underlying22 Tryz.underlying9 hi hz0 hz1 hz2 _ _ _ rfl hown s rfl ?c3 ?c4 ?c5 ?_)
  case c3 => unfold maxLen; omega
  case c4 => omega
  case c5 => have := hb1.size; omega
  intro v' w2 hown' hgrow _
  have hlt : T < w1.heap.size := (Array.getElem?_eq_some_iff.1 hbk).1
  have hb2 : w2.heap[T]? = some (.cells #[vb, .bool all, .pointer (some ⟨T, 2, none⟩), v] 55 (0, 0)) := by
    rw [hgrow.block T hlt (fun e => hne e.symm)]
    exact hbk
  have d1 : w2.cell? ⟨T, 3, none⟩ = some v := by simp [World.cell?, hb2]
  have f1 : w2.frozen? ⟨T, 3, none⟩ = false := by simp [World.frozen?, hb2]
  obtain ⟨ao, n', cap, rfl⟩ : ∃ ao n' cap, v' = .slice ao n' cap := by
    rcases hown'.2 with ⟨hv, _⟩ | ⟨g, cap, cur, hv, _⟩
    · exact ⟨_, _, _, hv⟩
    · exact ⟨_, _, _, hv⟩
  go_wp2
  go_ret2
  refine ⟨rfl, ⟨hB, _, _, .inr rfl, by simp [World.setCell, Array.getElem?_modify, hb2], ?_, Lib.ownBlock_ne hown' hb2 teller_ne⟩, ?_, (hk1.grown hgrow (own_kind hown)).setCell ⟨T, 3, none⟩ rfl _⟩
  · have ho2 : w2.ownsRow B 5 1 (.slice ao n' cap) (bs ++ Lib.strCells s).length (bs ++ Lib.strCells s) := by simpa [Lib.strCells_length] using hown'
    exact ho2.kept (row := some T) ⟨rfl, rfl, rfl, by simp [World.setCell], fun k _ hk => Below.heap_setCell _ _ _ _ (fun e => hk (congrArg some e))⟩ (Or.inr (Lib.ownBlock_ne hown' hb2 teller_ne))
  · exact (hb1.grown hgrow (by have := hb1.size; omega) (fun k hk => (hown.lt k hk).1)).setCell (p := ⟨T, 3, none⟩) hB _
end Go.Proofs.YtkmgflnmffdhjaaGreatDoor

/- Layer 20: contracts of package structure: what a teller has told, as a text; some texts more. -/
namespace Go.Proofs.YtkmgflnmffdhjaaGreatDoor
open Go Go.RowKit

theorem cellsByte1 : Tryz.prog.cellsOf 5 = 1 := by kernel_rfl
set_option maxHeartbeats 1000000 in
set_option maxRecDepth 100000 in
theorem told_any (B T : Nat) (vb : Value) (all : Bool) (l : List UInt8) (w : World) (h : TlAt B T vb all (Lib.byteCells l) w) (h0 : l ≠ []) :
    Calls Tryz.prog 15 #[.pointer (some ⟨T, 2, none⟩)] w fun e w' => e = .returned (.string ⟨l.toArray⟩) ∧ Below B w w' := by
  obtain ⟨hB, p, v, hp, hbk, hown, hne⟩ := h
  have hl0 : l.length ≠ 0 := by simpa using h0
  rw [Lib.byteCells_length] at hown
  obtain ⟨g, cap, cur, rfl, hbg, hg, hnc, hcm, hcs, htake⟩ : ∃ g cap cur, v = .slice (some ⟨g, 0, none⟩) l.length cap ∧ B ≤ g ∧ w.heap[g]? = some (.cells cur 5 (0, 0)) ∧ l.length ≤ cap ∧ cap ≤ maxLen ∧ cur.size = cap * 1 ∧ cur.toList.take (l.length * 1) = Lib.byteCells l := by
    rcases hown.2 with ⟨_, hz⟩ | ⟨g, cap, cur, hv, r⟩
    · exact absurd hz hl0
    · exact ⟨g, cap, cur, hv, r⟩
  have hA := (rowAt_owned hown).cell
  have hbk' : w.drew.heap[T]? = some (.cells #[vb, .bool all, p, .slice (some ⟨g, 0, none⟩) l.length cap] 55 (0, 0)) := hbk
  have c1 : w.drew.cell? ⟨T, 3, none⟩ = some (.slice (some ⟨g, 0, none⟩) l.length cap) := by simp [World.cell?, hbk']
  have hSD : (Builtin.unsafeSliceData_ #[22] 85 #[.slice (some ⟨g, 0, none⟩) l.length cap]).run Tryz.prog w.drew = .ok (.pointer (some ⟨g, 0, none⟩)) w.drew :=
    Lib.run_unsafeSliceData_row _ _ _ _ _ _ (by omega)
  have hUS : (Builtin.unsafeString_ #[85, 3] 9 #[.pointer (some ⟨g, 0, none⟩), .int .i64 l.length]).run Tryz.prog w.drew = .ok (.string ⟨l.toArray⟩) (w.drew.freeze ⟨g, 0, none⟩ l.length) := by
    refine Lib.run_unsafeString_row w.drew 85 3 9 5 Tryz.underlying85 cellsByte1 g cur.size (by have hg' : w.drew.heap[g]? = some (.cells cur 5 (0, 0)) := hg; simp [World.shape?, hg']) l h0 (by omega) (by unfold maxLen at hcm; omega) ?_
    intro j x hx
    have hj : j < (Lib.byteCells l).length := by rw [Lib.byteCells_length]; exact (List.getElem?_eq_some_iff.1 hx).1
    have h1 := hA j hj
    rw [Addr.add_lit, Nat.zero_add]
    refine h1.trans ?_
    simp [Lib.byteCells, (List.getElem?_eq_some_iff.1 hx).2]
  go_enter Tryz.func15, Tryz.ntmps15
  go_wp2
  go_region
  all_goals (go_wp2; go_ret; exact ⟨rfl, Lib.below_freeze (Below.drew (Below.refl B w)) (p := ⟨g, 0, none⟩) hbg _⟩)
/-- A row of texts in a block. -/
def strRow (W : World) (g : Nat) (xs : List ByteArray) : Prop := W.heap[g]? = some (.cells (xs.map Value.string).toArray 9 (0, 0))
theorem strRow.cell {W : World} {g : Nat} {xs : List ByteArray} (h : strRow W g xs) {i : Nat} (hi : i < xs.length) : W.cell? ⟨g, i, none⟩ = some (.string xs[i]) := by
  unfold strRow at h
  simp [World.cell?, h, hi]
theorem strRow.lt {W : World} {g : Nat} {xs : List ByteArray} (h : strRow W g xs) : g < W.heap.size := (Array.getElem?_eq_some_iff.1 h).1
theorem str_not_u8 : ∀ (xs : List ByteArray) c fz, (Obj.cells (xs.map Value.string).toArray 9 (0, 0)) ≠ .cells c 5 fz := by
  intro xs c fz e
  have h := (Obj.cells.inj e).2.1
  exact absurd h (by decide)
theorem strRow.others {W W' : World} {g T : Nat} {xs : List ByteArray} (h : strRow W g xs) (hne : g ≠ T) (hk : Lib.OthersKept 5 (some T) W W') : strRow W' g xs :=
  hk g _ h (fun e => hne (Option.some.inj e)) (str_not_u8 xs)
/-- What texts are, one behind the other, as cells. -/
def strsC (xs : List ByteArray) : List Value := xs.flatMap Lib.strCells
theorem strsC_snoc (xs : List ByteArray) (i : Nat) (h : i < xs.length) : strsC (xs.take (i + 1)) = strsC (xs.take i) ++ Lib.strCells xs[i] := by
  unfold strsC
  rw [List.take_succ_eq_append_getElem h, List.flatMap_append, List.flatMap_cons, List.flatMap_nil, List.append_nil]
theorem strsC_le (xs : List ByteArray) (i : Nat) (h : i < xs.length) : (strsC (xs.take i)).length + xs[i].size ≤ (strsC xs).length := by
  have h1 := strsC_snoc xs i h
  have h2 : strsC xs = strsC (xs.take (i + 1)) ++ strsC (xs.drop (i + 1)) := by
    unfold strsC
    rw [← List.flatMap_append, List.take_append_drop]
  rw [h2, h1]
  simp only [List.length_append, Lib.strCells_length]
  omega
set_option maxHeartbeats 1000000 in
set_option maxRecDepth 100000 in
theorem add_any (B T g c : Nat) (vb : Value) (all : Bool) (bs : List Value) (xs : List ByteArray) (w : World) (h : TlAt B T vb all bs w) (hr : strRow w g xs) (hg : g ≠ T) (hn : xs.length ≤ 1000) (hlen : bs.length + (strsC xs).length ≤ 140737488355328) (hBw : B ≤ w.heap.size) :
    Calls Tryz.prog 30 #[.pointer (some ⟨T, 0, none⟩), .slice (some ⟨g, 0, none⟩) xs.length c] w fun e w' => e = .returned (.tuple #[]) ∧ TlAt B T vb all (bs ++ strsC xs) w' ∧ Kq B T w w' := by
  have HT := Lib.hid h
  have HR := Lib.hid hr
  have HL := Lib.hid hlen
  have HS := Lib.hid (fun bs' s W h1 h2 h3 => write_any B T vb all bs' s W h1 h2 h3)
  clear h hr hlen
  go_enter Tryz.func30, Tryz.ntmps30
  go_wp2_with fail
  go_loopg [8] xs.length (fun q xi wr => ∃ (i : Nat), i ≤ xs.length ∧ q = xs.length - i ∧ xi = .int .i64 (i : Int) ∧ Hid (TlAt B T vb all (bs ++ strsC (xs.take i)) wr) ∧ Hid (Kq B T w wr))
  case atStart => exact ⟨0, Nat.zero_le _, by omega, rfl, by simpa [strsC, Hid] using HT.out, Kq.refl _ _ _⟩
  case round =>
    obtain ⟨i, hi, rfl, rfl, HTi, HK⟩ := hrel
    by_cases hlt : i < xs.length
    · have x0 := (HR.out.others hg HK.out.2).cell hlt
      have hgl := (HR.out.others hg HK.out.2).lt
      have hq := strsC_le xs i hlt
      have HN := Lib.hid (strsC_snoc xs i hlt)
      have HC := Lib.hid (HS.out _ xs[i] wr HTi.out (by have := HL.out; simp only [List.length_append]; omega) (by have := HK.out.1.size; omega))
      obtain ⟨s, hs⟩ : ∃ s, s = xs[i] := ⟨_, rfl⟩
      rw [← hs] at x0 HN HC
      clear hs hq
      go_wp2_with fail
      with_reducible refine HC.out.mono ?_
      rintro e w1 ⟨rfl, ht1, hk1⟩
      have HT1 := Lib.hid ht1
      have HK1 : Hid (Kq B T w w1) := ⟨HK.out.1.trans hk1.1, HK.out.2.trans hk1.2⟩
      clear ht1 hk1
      go_wp2_with fail
      go_roundg (xs.length - (i + 1))
      case measure => omega
      case rel => exact ⟨i + 1, by omega, rfl, by go_num, by unfold Hid; rw [HN.out, ← List.append_assoc]; exact HT1.out, HK1⟩
    · obtain rfl : i = xs.length := by omega
      go_wp2_with fail
      go_end0
      refine ⟨rfl, ?_, HK.out⟩
      have := HTi.out
      rw [List.take_length] at this
      exact this
end Go.Proofs.YtkmgflnmffdhjaaGreatDoor

/- Layer 20: contracts of package structure: texts put together; a head and its fields. -/
namespace Go.Proofs.YtkmgflnmffdhjaaGreatDoor
open Go Go.RowKit

/-- Texts with a space between. -/
def spW (ps : List (List UInt8)) : List UInt8 := Lib.join ps [32]
set_option maxRecDepth 100000 in
theorem spaced_any (bk c : Nat) (xs : List ByteArray) (w : World) (hcells : ∀ (j : Nat) x, xs[j]? = some x → w.cell? ⟨bk, 0 + j, none⟩ = some (.string x)) (hbk : bk < w.heap.size) (hN : xs.length ≤ 1000) (hcap : xs.length ≤ c) (hlen : wsW (xs.map (·.data.toList)) ≤ 4000000000) :
    Calls Tryz.prog 55 #[.slice (some ⟨bk, 0, none⟩) xs.length c] w fun e w' => e = .returned (.string ⟨(spW (xs.map (·.data.toList))).toArray⟩) ∧ Below w.heap.size w w' := by
  have hj := join_len (xs.map (·.data.toList)) [32] (by simp)
  have HJ := Lib.hid (Tryz.strings_Join bk 0 c xs ⟨#[32]⟩ w hcells hbk (by omega) hcap (by
    show (Lib.join (xs.map (·.data.toList)) [32]).length ≤ _
    omega))
  obtain ⟨T, hT⟩ : ∃ T : ByteArray, T = ⟨(Lib.join (xs.map (·.data.toList)) (⟨#[32]⟩ : ByteArray).data.toList).toArray⟩ := ⟨_, rfl⟩
  have HV : Hid (T = ⟨(spW (xs.map (·.data.toList))).toArray⟩) := hT
  rw [← hT] at HJ
  obtain ⟨n, hn⟩ : ∃ n, n = xs.length := ⟨_, rfl⟩
  rw [← hn] at HJ hN hcap ⊢
  obtain ⟨R, hR⟩ : ∃ R : ByteArray, R = ⟨(spW (xs.map (·.data.toList))).toArray⟩ := ⟨_, rfl⟩
  rw [← hR] at HV ⊢
  clear hcells hj hlen hT hn hR
  go_enter Tryz.func55, Tryz.ntmps55
  go_wp2_with fail
  with_reducible refine HJ.out.mono ?_
  rintro e w1 ⟨rfl, hb1⟩
  go_wp2_with fail
  go_ret
  exact ⟨ret_str HV.out, hb1⟩
theorem spW_len (ps : List (List UInt8)) : (spW ps).length ≤ wsW ps := by
  have := join_len ps [32] (by simp)
  unfold spW
  omega
theorem row_bytes (xs : List ByteArray) (T : ByteArray) (hT : T = ⟨(spW (xs.map (·.data.toList))).toArray⟩) : (⟨#[40]⟩ ++ T ++ ⟨#[41]⟩ : ByteArray) = ⟨(rowW (xs.map (·.data.toList))).toArray⟩ := by
  refine bytes_eq ?_
  rw [cat_toList, cat_toList, hT]
  rfl
set_option maxRecDepth 100000 in
theorem row_any (bk c : Nat) (xs : List ByteArray) (w : World) (hcells : ∀ (j : Nat) x, xs[j]? = some x → w.cell? ⟨bk, 0 + j, none⟩ = some (.string x)) (hbk : bk < w.heap.size) (hN : xs.length ≤ 1000) (hcap : xs.length ≤ c) (hlen : wsW (xs.map (·.data.toList)) ≤ 4000000000) :
    Calls Tryz.prog 39 #[.slice (some ⟨bk, 0, none⟩) xs.length c] w fun e w' => e = .returned (.string ⟨(rowW (xs.map (·.data.toList))).toArray⟩) ∧ Below w.heap.size w w' := by
  have HJ := Lib.hid (spaced_any bk c xs w hcells hbk hN hcap hlen)
  have hs := spW_len (xs.map (·.data.toList))
  obtain ⟨T, hT⟩ : ∃ T : ByteArray, T = ⟨(spW (xs.map (·.data.toList))).toArray⟩ := ⟨_, rfl⟩
  have HV := Lib.hid (row_bytes xs T hT)
  have hTs : T.size ≤ 4000000000 := by
    rw [hT]
    show ((spW (xs.map (·.data.toList))).toArray).size ≤ _
    simp
    omega
  rw [← hT] at HJ
  obtain ⟨n, hn⟩ : ∃ n, n = xs.length := ⟨_, rfl⟩
  rw [← hn] at HJ hN hcap ⊢
  obtain ⟨R, hR⟩ : ∃ R : ByteArray, R = ⟨(rowW (xs.map (·.data.toList))).toArray⟩ := ⟨_, rfl⟩
  rw [← hR] at HV ⊢
  clear hcells hlen hT hn hR hs
  go_enter Tryz.func39, Tryz.ntmps39
  go_wp2_with fail
  with_reducible refine HJ.out.mono ?_
  rintro e w1 ⟨rfl, hb1⟩
  go_wp2_with fail
  go_ret
  exact ⟨ret_str HV.out, hb1⟩
/-- The cells of a row of texts. -/
theorem strRow.cells {W : World} {g : Nat} {xs : List ByteArray} (h : strRow W g xs) : ∀ (j : Nat) x, xs[j]? = some x → W.cell? ⟨g, 0 + j, none⟩ = some (.string x) := by
  intro j x hx
  obtain ⟨hj, rfl⟩ := List.getElem?_eq_some_iff.1 hx
  rw [Nat.zero_add]
  exact h.cell hj
theorem spaced_row (g : Nat) (xs : List ByteArray) (w : World) (h : strRow w g xs) (hN : xs.length ≤ 1000) (hlen : wsW (xs.map (·.data.toList)) ≤ 4000000000) :
    Calls Tryz.prog 55 #[.slice (some ⟨g, 0, none⟩) xs.length xs.length] w fun e w' => e = .returned (.string ⟨(spW (xs.map (·.data.toList))).toArray⟩) ∧ Below w.heap.size w w' :=
  spaced_any g xs.length xs w h.cells h.lt hN (Nat.le_refl _) hlen
theorem spaced_two (a b : ByteArray) (W : World) (h : a.size + b.size ≤ 3000000000) :
    Calls Tryz.prog 55 #[.slice (some ⟨W.heap.size, 0, none⟩) 2 2] (W.alloc (.cells #[.string a, .string b] 9)) fun e w' => e = .returned (.string ⟨(spW [a.data.toList, b.data.toList]).toArray⟩) ∧ Below W.heap.size W w' :=
  (spaced_row W.heap.size [a, b] _ (heap_alloc_new W _) (by simp) (by
    simp only [List.map_cons, List.map_nil, wsW, List.sum_cons, List.sum_nil, len_toList]
    omega)).mono fun e w' ⟨h1, h2⟩ => ⟨h1, (((Below.refl _ _).alloc (Nat.le_refl _) _).trans (h2.mono (by simp)))⟩
theorem spaced_three (a b c : ByteArray) (W : World) (h : a.size + b.size + c.size ≤ 3000000000) :
    Calls Tryz.prog 55 #[.slice (some ⟨W.heap.size, 0, none⟩) 3 3] (W.alloc (.cells #[.string a, .string b, .string c] 9)) fun e w' => e = .returned (.string ⟨(spW [a.data.toList, b.data.toList, c.data.toList]).toArray⟩) ∧ Below W.heap.size W w' :=
  (spaced_row W.heap.size [a, b, c] _ (heap_alloc_new W _) (by simp) (by
    simp only [List.map_cons, List.map_nil, wsW, List.sum_cons, List.sum_nil, len_toList]
    omega)).mono fun e w' ⟨h1, h2⟩ => ⟨h1, (((Below.refl _ _).alloc (Nat.le_refl _) _).trans (h2.mono (by simp)))⟩
theorem row_two (a b : ByteArray) (W : World) (h : a.size + b.size ≤ 3000000000) :
    Calls Tryz.prog 39 #[.slice (some ⟨W.heap.size, 0, none⟩) 2 2] (W.alloc (.cells #[.string a, .string b] 9)) fun e w' => e = .returned (.string ⟨(rowW [a.data.toList, b.data.toList]).toArray⟩) ∧ Below W.heap.size W w' :=
  (row_any W.heap.size 2 [a, b] _ (strRow.cells (heap_alloc_new W _)) (by simp) (by simp) (by simp) (by
    simp only [List.map_cons, List.map_nil, wsW, List.sum_cons, List.sum_nil, len_toList]
    omega)).mono fun e w' ⟨h1, h2⟩ => ⟨h1, (((Below.refl _ _).alloc (Nat.le_refl _) _).trans (h2.mono (by simp)))⟩
/-- A head, as a value. -/
def headV (ao : Option Addr) (n cap : Nat) (fo : Option Addr) (m fc : Nat) : Value := .agg #[.slice ao n cap, .slice fo m fc]
def HdAt (W : World) (l : List UInt8) (fs : List Fld) (ao : Option Addr) (cap : Nat) (fo : Option Addr) (fc : Nat) : Prop :=
  bytesArg W (.slice ao l.length cap) l ∧ rowF W (.slice fo fs.length fc) fs
theorem HdAt.below {W W' : World} {l : List UInt8} {fs : List Fld} {ao : Option Addr} {cap : Nat} {fo : Option Addr} {fc : Nat} (h : HdAt W l fs ao cap fo fc) (hb : Below W.heap.size W W') : HdAt W' l fs ao cap fo fc :=
  ⟨h.1.below hb, h.2.below hb⟩
theorem cells2_set {W : World} {g : Nat} {x y a b : Value} {t : TypeId} {fr : Nat × Nat} (h : W.heap[g]? = some (.cells #[x, y] t fr)) :
    ((W.setCell ⟨g, 0, none⟩ a).setCell ⟨g, 1, none⟩ b).heap[g]? = some (.cells #[a, b] t fr) := by
  simp [World.setCell, Array.getElem?_modify, h]
def hdoPost (l : List UInt8) (fs : List Fld) (ao : Option Addr) (cap : Nat) (w : World) (e : Ending) (w' : World) : Prop :=
  ∃ fo fc, e = .returned (headV ao l.length cap fo fs.length fc) ∧ HdAt w' l fs ao cap fo fc ∧ Below w.heap.size w w'
def hdwPost (l : List UInt8) (fs : List Fld) (ao : Option Addr) (cap : Nat) (w : World) (e : Ending) (w' : World) : Prop :=
  ∃ fo fc, e = .returned (headV ao l.length cap fo fs.length fc) ∧ w'.ownsRow w.heap.size 100 4 (.slice fo fs.length fc) fs.length (fldCells fs) ∧ Below w.heap.size w w'
set_option maxRecDepth 100000 in
set_option maxHeartbeats 2000000 in
theorem headOf_own (ao : Option Addr) (cap : Nat) (l : List UInt8) (f t : Nat) (K q0 q1 q2 q3 : Int) (ka ca : Option Addr) (kn kc cn cc : Nat) (w : World) (hv : bytesArg w (.slice ao l.length cap) l) (hbig : l.length ≤ 100000) (hft : f ≤ t) (htl : t ≤ l.length) :
    Calls Tryz.prog 17 #[.slice ao l.length cap, .agg #[.int .i64 K, .int .i64 (f : Int), .int .i64 (t : Int), .int .i64 q0, .int .i64 q1, .slice ka kn kc, .slice ca cn cc, .int .i64 q2, .int .i64 q3]] w (hdwPost l (fsOf l f t) ao cap w) := by
  unfold hdwPost
  have HV := Lib.hid hv
  have HOf := Lib.hid (fun W (hb : Below w.heap.size w W) => of_walk (.slice ao l.length cap) l f t W (HV.out.below hb) hft htl (by omega))
  unfold OfPost at HOf
  obtain ⟨fs, hfs⟩ : ∃ fs, fs = fsOf l f t := ⟨_, rfl⟩
  rw [show fieldsL l ((linesS l f t).take (eI (linesS l f t))) = fs from hfs.symm] at HOf
  rw [← hfs]
  obtain ⟨N, hN⟩ : ∃ N : Int, N = ((behindN (linesS l f t) t : Nat) : Int) := ⟨_, rfl⟩
  rw [← hN] at HOf
  clear hfs hN hv
  obtain ⟨X, hX⟩ : ∃ X, X = (w.alloc (.cells #[.int .i64 K, .int .i64 (f : Int), .int .i64 (t : Int), .int .i64 q0, .int .i64 q1, .slice ka kn kc, .slice ca cn cc, .int .i64 q2, .int .i64 q3] 29)).alloc (.cells #[.slice none 0 0, .slice none 0 0] 65) := ⟨_, rfl⟩
  obtain ⟨R, hR⟩ : ∃ R, R = w.heap.size + 1 := ⟨_, rfl⟩
  have HB1 : Hid (Below w.heap.size w X) := by rw [hX]; exact ((Below.refl _ _).alloc (Nat.le_refl _) _).alloc (by simp) _
  have HR1 : Hid (X.heap[R]? = some (.cells #[.slice none 0 0, .slice none 0 0] 65 (0, 0))) := by unfold Hid; rw [hX, hR]; exact heap_alloc2_new _ _ _
  have hRs : R < X.heap.size := (Array.getElem?_eq_some_iff.1 HR1.out).1
  have HX := Lib.hid hX
  have HR := Lib.hid hR
  have hRw : w.heap.size ≤ R := by omega
  clear hX hR
  go_enter Tryz.func17, Tryz.ntmps17
  go_wp2_with fail
  rw [← HX.out, ← HR.out]
  with_reducible refine (HOf.out _ HB1.out).mono ?_
  rintro e w2 ⟨u, rfl, ho2, hb2⟩
  obtain ⟨fo, fc, rfl, _, _, _⟩ := (rowF_owned ho2).at
  have HF2 := Lib.hid ho2
  have HB2 := Lib.hid (HB1.out.trans (hb2.mono HB1.out.size))
  have HR2 := Lib.hid ((hb2.block R hRs).trans HR1.out)
  have hRs2 : R < w2.heap.size := (Array.getElem?_eq_some_iff.1 HR2.out).1
  have x0 : w2.cell? ⟨R, 0, none⟩ = some (.slice none 0 0) := by simp [World.cell?, HR2.out]
  have x1 : w2.cell? ⟨R, 1, none⟩ = some (.slice none 0 0) := by simp [World.cell?, HR2.out]
  have f0 : w2.frozen? ⟨R, 0, none⟩ = false := by simp [World.frozen?, HR2.out]
  have f1 : w2.frozen? ⟨R, 1, none⟩ = false := by simp [World.frozen?, HR2.out]
  clear ho2 hb2 HR1 HB1 HX HOf
  go_wp2_with fail
  (try simp only [Exit.inBlock, Exit.then])
  refine bodyPost_ret (results_cell_row (P := Tryz.prog) Tryz.results17 _ _ R 65 #[.slice ao l.length cap, .slice fo fs.length fc] (0, 0) _ rfl (cells2_set HR2.out) Tryz.underlying65 rfl (by kernel_rfl)) rfl ?_
  exact ⟨fo, fc, rfl, own_base2 (own_set (own_set HF2.out hRs) hRs) (by omega), (HB2.out.setCell (p := ⟨R, 0, none⟩) hRw _).setCell (p := ⟨R, 1, none⟩) hRw _⟩
theorem headOf_any (ao : Option Addr) (cap : Nat) (l : List UInt8) (f t : Nat) (K q0 q1 q2 q3 : Int) (ka ca : Option Addr) (kn kc cn cc : Nat) (w : World) (hv : bytesArg w (.slice ao l.length cap) l) (hbig : l.length ≤ 100000) (hft : f ≤ t) (htl : t ≤ l.length) :
    Calls Tryz.prog 17 #[.slice ao l.length cap, .agg #[.int .i64 K, .int .i64 (f : Int), .int .i64 (t : Int), .int .i64 q0, .int .i64 q1, .slice ka kn kc, .slice ca cn cc, .int .i64 q2, .int .i64 q3]] w (hdoPost l (fsOf l f t) ao cap w) :=
  (headOf_own ao cap l f t K q0 q1 q2 q3 ka ca kn kc cn cc w hv hbig hft htl).mono fun _ _ ⟨fo, fc, h1, h2, h3⟩ => ⟨fo, fc, h1, ⟨hv.below h3, rowF_owned h2⟩, h3⟩
end Go.Proofs.YtkmgflnmffdhjaaGreatDoor
