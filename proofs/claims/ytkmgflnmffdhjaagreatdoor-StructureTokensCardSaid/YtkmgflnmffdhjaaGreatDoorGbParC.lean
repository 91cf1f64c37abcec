/- sync.Once's slow road at this program: the parts, each a contract of its own. -/
import Derived.Test.YtkmgflnmffdhjaaGreatDoorGbChars7
import Derived.Test.YtkmgflnmffdhjaaGreatDoorProg
import Derived.Tactics
import Derived.Tactics2
import Derived.Defers
import Derived.Laws.Pointers
import Derived.Laws.LoneSync
import Derived.RegionTactic
import Derived.RegionCalls
import Derived.ChangeAlike
import Derived.WalkKit
import Derived.WalkSpells
import Derived.Laws.BitsAllLaws
import Derived.Laws.BitsLemmas
import Derived.BigQuiet
import Derived.Deep.QuietTactic
import Derived.Deep.LoopGhost
import Derived.Lib.Hide
import Derived.Laws.Tables
import Derived.Laws.MakeOwn
import Derived.Maps.AppendAt
import Derived.Laws.Cover3
import Derived.Laws.CopyOwn
import Derived.Laws.Rows
namespace Go.Proofs.YtkmgflnmffdhjaaGreatDoor
open Go Go.RowKit

theorem disable_any (w : World) : (callFunc 225 #[]).run Tryz.prog w = .ok (.value (.tuple #[])) w := run_call_mark0 Tryz.func225 (by kernel_rfl) (by kernel_rfl) (by kernel_rfl) .disable (by kernel_rfl) w
theorem enable_any (w : World) : (callFunc 227 #[]).run Tryz.prog w = .ok (.value (.tuple #[])) w := run_call_mark0 Tryz.func227 (by kernel_rfl) (by kernel_rfl) (by kernel_rfl) .enable (by kernel_rfl) w
theorem acquire_any (a : Addr) (w : World) : (callFunc 228 #[.pointer (some a)]).run Tryz.prog w = .ok (.value (.tuple #[])) w := run_call_marked Tryz.func228 (by kernel_rfl) (by kernel_rfl) (by kernel_rfl) .acquire (by kernel_rfl) a w
theorem releaseMerge_any (a : Addr) (w : World) : (callFunc 230 #[.pointer (some a)]).run Tryz.prog w = .ok (.value (.tuple #[])) w := run_call_marked Tryz.func230 (by kernel_rfl) (by kernel_rfl) (by kernel_rfl) .releaseMerge (by kernel_rfl) a w

set_option maxRecDepth 100000 in
theorem store_deferred (a : Addr) (x : Value) (u : FrameMode) (w : World) (hc : w.cell? a = some x) (hz : w.frozen? a = false) :
    CallsD Tryz.prog 187 #[.pointer (some a), .bool true] u w fun e u' w' => u' = u ∧ (e = .returned (.tuple #[]) ∧ w' = w.drew.setCell a (.int .u32 1)) := by
  have hc' : w.drew.cell? a = some x := by go_simp
  have hz' : w.drew.frozen? a = false := by go_simp
  have hst := run_call_store (P := Tryz.prog) Tryz.func215 (by kernel_rfl) (by kernel_rfl) (by kernel_rfl) (by kernel_rfl) (k := .u32) (y := 1) hc' hz'
  go_enter_d Tryz.func187, Tryz.ntmps187
  go_wp2
  go_region_calls
  all_goals (go_end0; exact ⟨rfl, rfl⟩)

set_option maxRecDepth 100000 in
theorem unlock_deferred (a : Addr) (u : FrameMode) (w : World) (hc : w.cell? a = some (.int .i32 1)) (hz : w.frozen? a = false) :
    CallsD Tryz.prog 186 #[.pointer (some a)] u w fun e u' w' => u' = u ∧ (e = .returned (.tuple #[]) ∧ w' = w.setCell a (.int .i32 0)) := by
  have hd := disable_any
  have he := enable_any
  have hr := releaseMerge_any
  have hadd := run_call_add (P := Tryz.prog) Tryz.func231 (by kernel_rfl) (by kernel_rfl) (by kernel_rfl) .i32 (by kernel_rfl) (y := -1) (s := 0) hc hz (by simp [go_sem]; rfl)
  have hcv := run_convert_to_unsafe (P := Tryz.prog) (src := 309) (dst := 182) Tryz.underlying309 Tryz.underlying182 (by kernel_rfl) hc
  go_enter_d Tryz.func186, Tryz.ntmps186
  go_wp2
  go_end0
  go_wp2
  go_end0
  exact ⟨rfl, rfl⟩

set_option maxRecDepth 100000 in
theorem lock_free (a : Addr) (w : World) (hc : w.cell? a = some (.int .i32 0)) (hz : w.frozen? a = false) :
    Calls Tryz.prog 185 #[.pointer (some a)] w fun e w' => e = .returned (.tuple #[]) ∧ w' = w.setCell a (.int .i32 1) := by
  have hd := disable_any
  have he := enable_any
  have ha := acquire_any
  have hcas := run_call_cas_hit (P := Tryz.prog) Tryz.func226 (by kernel_rfl) (by kernel_rfl) (by kernel_rfl) .i32 (by kernel_rfl) (y := 1) hc hz
  have hc' : (w.setCell a (.int .i32 1)).cell? a = some (.int .i32 1) := World.cell?_setCell_same w a _ hc
  have hcv := run_convert_to_unsafe (P := Tryz.prog) (src := 309) (dst := 182) Tryz.underlying309 Tryz.underlying182 (by kernel_rfl) hc'
  go_enter Tryz.func185, Tryz.ntmps185
  go_wp2
  first | go_end0 | (simp only [Exit.inBlock, Exit.then]; refine bodyPost_ret (results_none rfl _ _ _) rfl ?_) | refine bodyPost_ret (results_none rfl _ _ _) rfl ?_
  go_wp2
  go_end0
  exact ⟨rfl, rfl⟩
end Go.Proofs.YtkmgflnmffdhjaaGreatDoor

/- sync.Once's Do, once: whatever it does. -/
namespace Go.Proofs.YtkmgflnmffdhjaaGreatDoor
open Go Go.RowKit

set_option maxRecDepth 100000 in
set_option maxHeartbeats 1600000 in
theorem slow_any (b : Nat) (r : Value) (w : World) (R : World → Prop)
    (h0 : w.cell? ⟨b, 0, none⟩ = some (.int .u32 0)) (h1 : w.cell? ⟨b, 1, none⟩ = some (.int .i32 0))
    (f1 : w.frozen? ⟨b, 1, none⟩ = false)
    (hf : Calls Tryz.prog 136 #[r] (w.setCell ⟨b, 1, none⟩ (.int .i32 1)) fun e w' => e = .returned (.tuple #[]) ∧
      w'.cell? ⟨b, 0, none⟩ = some (.int .u32 0) ∧ w'.cell? ⟨b, 1, none⟩ = some (.int .i32 1) ∧ w'.frozen? ⟨b, 0, none⟩ = false ∧ w'.frozen? ⟨b, 1, none⟩ = false ∧ R w') :
    Calls Tryz.prog 159 #[.pointer (some ⟨b, 0, none⟩), .func (.func 136) #[r] #[]] w fun e w' => e = .returned (.tuple #[]) ∧
      ∃ w1, R w1 ∧ w' = (w1.drew.setCell ⟨b, 0, none⟩ (.int .u32 1)).setCell ⟨b, 1, none⟩ (.int .i32 0) := by
  have hl := run_call_load (P := Tryz.prog) Tryz.func184 (by kernel_rfl) (by kernel_rfl) (by kernel_rfl) .u32 (by kernel_rfl) (w := w.setCell ⟨b, 1, none⟩ (.int .i32 1)) (a := ⟨b, 0, none⟩) (x := 0) ((World.cell?_setCell_other _ ⟨b, 1, none⟩ ⟨b, 0, none⟩ _ (by simp)).trans h0)
  have hnot : ∀ (x : Bool) (w : World), (Op.unary .not (.bool x)).run Tryz.prog w = .ok (.bool (!x)) w := fun _ _ => rfl
  go_enter_defers Tryz.func159, Tryz.ntmps159
  go_wp2_with (first | (go_at_call 185; refine (lock_free ⟨b, 1, none⟩ _ (by go_simp) (by go_simp)).mono ?_; rintro e w' ⟨rfl, rfl⟩) | (go_at_call 158; go_in) | (go_at_call 136; refine hf.mono ?_; rintro e w1 ⟨rfl, c0, c1, z0, z1, hR⟩))
  refine leaves_cons (f := 187) (args := #[.pointer (some ⟨b, 0, none⟩), .bool true]) (by simp) (by simp [go_sem]) ?_
  refine (store_deferred ⟨b, 0, none⟩ (.int .u32 0) .returning _ c0 z0).mono ?_
  rintro e u' w'' ⟨rfl, rfl, rfl⟩
  refine leaves_cons (f := 186) (args := #[.pointer (some ⟨b, 1, none⟩)]) (by simp [settle]) (by simp [go_sem]) ?_
  refine (unlock_deferred ⟨b, 1, none⟩ _ _ ?_ (by simp [z1])).mono ?_
  · refine (World.cell?_setCell_other _ ⟨b, 0, none⟩ ⟨b, 1, none⟩ _ (by simp)).trans ?_
    rw [World.cell?_drew]
    exact c1
  rintro e u' w'' ⟨rfl, rfl, rfl⟩
  simp [Leaves, settle, results, Tryz.results159]
  exact ⟨w1, hR, rfl⟩

set_option maxRecDepth 100000 in
theorem do_any (b : Nat) (r : Value) (w : World) (R : World → Prop)
    (h0 : w.cell? ⟨b, 0, none⟩ = some (.int .u32 0)) (h1 : w.cell? ⟨b, 1, none⟩ = some (.int .i32 0))
    (f1 : w.frozen? ⟨b, 1, none⟩ = false)
    (hf : Calls Tryz.prog 136 #[r] (w.setCell ⟨b, 1, none⟩ (.int .i32 1)) fun e w' => e = .returned (.tuple #[]) ∧
      w'.cell? ⟨b, 0, none⟩ = some (.int .u32 0) ∧ w'.cell? ⟨b, 1, none⟩ = some (.int .i32 1) ∧ w'.frozen? ⟨b, 0, none⟩ = false ∧ w'.frozen? ⟨b, 1, none⟩ = false ∧ R w') :
    Calls Tryz.prog 135 #[.pointer (some ⟨b, 0, none⟩), .func (.func 136) #[r] #[]] w fun e w' => e = .returned (.tuple #[]) ∧
      ∃ w1, R w1 ∧ w' = (w1.drew.setCell ⟨b, 0, none⟩ (.int .u32 1)).setCell ⟨b, 1, none⟩ (.int .i32 0) := by
  have hl := run_call_load (P := Tryz.prog) Tryz.func184 (by kernel_rfl) (by kernel_rfl) (by kernel_rfl) .u32 (by kernel_rfl) (w := w) (a := ⟨b, 0, none⟩) (x := 0) h0
  have hnot : ∀ (x : Bool) (w : World), (Op.unary .not (.bool x)).run Tryz.prog w = .ok (.bool (!x)) w := fun _ _ => rfl
  have HS := Lib.hid (slow_any b r w R h0 h1 f1 hf)
  clear hf
  go_enter Tryz.func135, Tryz.ntmps135
  go_wp2_with (first | (go_at_call 158; go_in) | (go_at_call 159; refine HS.out.mono ?_; rintro e w' ⟨rfl, w1, hR, rfl⟩))
  go_end0
  exact ⟨rfl, w1, hR, rfl⟩
end Go.Proofs.YtkmgflnmffdhjaaGreatDoor

/- More small laws of my own, of no function: slices of bytes, rows that the call owns, bits of 32 and 8. -/
namespace Go.Proofs.YtkmgflnmffdhjaaGreatDoor
open Go Go.RowKit

def byteN (n : Nat) : UInt8 := UInt8.ofNat n
theorem byteN_toNat (n : Nat) (h : n < 256) : (byteN n).toNat = n := by unfold byteN; rw [UInt8.toNat_ofNat']; omega
theorem toNat_eq {a b : UInt8} (h : a.toNat = b.toNat) : a = b := UInt8.toNat_inj.1 h
/-- The slice's first cells are these bytes. -/
def sliceAt (W : World) (ao : Option Addr) (l : List UInt8) : Prop :=
  l = [] ∨ ∃ b off, ao = some ⟨b, off, none⟩ ∧ b < W.heap.size ∧ ∀ j, (h : j < l.length) → W.cell? ⟨b, off + j, none⟩ = some (byteV l[j])
theorem sliceAt.arg {W : World} {ao : Option Addr} {cap : Nat} {l : List UInt8} (h : sliceAt W ao l) (h1 : l.length ≤ cap) (h2 : cap ≤ maxLen) : bytesArg W (.slice ao l.length cap) l := ⟨ao, cap, rfl, h1, h2, h⟩
theorem sliceAt.below {W W' : World} {ao : Option Addr} {l : List UInt8} (h : sliceAt W ao l) (hb : Below W.heap.size W W') : sliceAt W' ao l := by
  rcases h with h | ⟨b, off, e, hlt, hc⟩
  · exact .inl h
  · exact .inr ⟨b, off, e, Nat.lt_of_lt_of_le hlt hb.size, fun j hj => (hb.cell (p := ⟨b, off + j, none⟩) hlt).trans (hc j hj)⟩
theorem bytesArg.below {W W' : World} {v : Value} {l : List UInt8} (h : bytesArg W v l) (hb : Below W.heap.size W W') : bytesArg W' v l := by
  obtain ⟨ao, cap, rfl, h1, h2, h3⟩ := h
  exact ⟨ao, cap, rfl, h1, h2, sliceAt.below h3 hb⟩
theorem bytesArg_owned {w : World} {base n : Nat} {v : Value} {l : List UInt8} {e : TypeId} (h : w.ownsRow base e 1 v n (l.map byteV)) : bytesArg w v l := by
  have h1 := h.1
  have hn : n = l.length := by simpa using h1.symm
  subst hn
  by_cases h0 : l.length = 0
  · have : l = [] := List.eq_nil_of_length_eq_zero h0
    subst this
    rcases h.2 with ⟨rfl, _⟩ | ⟨g, cap, cur, rfl, _, _, hc, hm, _⟩
    · exact ⟨none, 0, rfl, Nat.le_refl _, Nat.zero_le _, .inl rfl⟩
    · exact ⟨_, cap, rfl, hc, hm, .inl rfl⟩
  · obtain ⟨g, cap, rfl, hc, hm, _, hg⟩ := ownsRow_slice h (by omega)
    refine ⟨_, cap, rfl, hc, hm, .inr ⟨g, 0, rfl, hg, fun j hj => ?_⟩⟩
    have := (rowAt_owned h).cell j (by simpa using hj)
    rw [Nat.zero_add, this]
    simp
theorem sliceAt.take {W : World} {ao : Option Addr} {l : List UInt8} (h : sliceAt W ao l) (k : Nat) : sliceAt W ao (l.take k) := by
  rcases h with rfl | ⟨b, off, e, hlt, hc⟩
  · exact .inl (by simp)
  · refine .inr ⟨b, off, e, hlt, fun j hj => ?_⟩
    simp only [List.length_take] at hj
    rw [hc j (by omega)]
    simp
theorem sliceAt.drop {W : World} {b off k : Nat} {l : List UInt8} (h : sliceAt W (some ⟨b, off, none⟩) l) : sliceAt W (some ⟨b, off + k, none⟩) (l.drop k) := by
  rcases h with rfl | ⟨b', off', e, hlt, hc⟩
  · exact .inl (by simp)
  · cases e
    refine .inr ⟨b, off + k, rfl, hlt, fun j hj => ?_⟩
    simp only [List.length_drop] at hj
    rw [Nat.add_assoc, hc (k + j) (by omega)]
    simp
theorem Tryz.infoB : (Tryz.prog.info? 5).map (fun i => (i.zero, i.size, i.bytes)) = some (some (.int .u8 0), 1, 1) := by kernel_rfl
theorem sliceAt.news {W : World} {b off : Nat} {l : List UInt8} (h : sliceAt W (some ⟨b, off, none⟩) l) : ∀ j u, (l.map byteV)[j]? = some u → W.cell? ((⟨b, off, none⟩ : Addr).add j) = some u := by
  intro j u hu
  rcases h with rfl | ⟨b', off', e, hlt, hc⟩
  · simp at hu
  · cases e
    rw [List.getElem?_map, Option.map_eq_some_iff] at hu
    obtain ⟨x, hx, rfl⟩ := hu
    obtain ⟨hj, rfl⟩ := List.getElem?_eq_some_iff.1 hx
    rw [Addr.add_lit]
    exact hc j hj
theorem news_one (l : List UInt8) : ∀ u ∈ l.map byteV, u.oneCell' = true := by
  intro u hu
  obtain ⟨x, _, rfl⟩ := List.mem_map.1 hu
  rfl
theorem cells_two_new (w : World) (t : TypeId) (x y : Value) : ∀ j u, [x, y][j]? = some u → (w.alloc (.cells #[x, y] t)).cell? ((⟨w.heap.size, 0, none⟩ : Addr).add j) = some u := by
  intro j u hu
  rw [Addr.add_lit]
  match j, hu with
  | 0, hu => simp only [World.cell?, heap_alloc_new]; simpa using hu
  | 1, hu => simp only [World.cell?, heap_alloc_new]; simpa using hu
  | j + 2, hu => simp at hu
theorem cells_four_new (w : World) (t : TypeId) (x y z u : Value) : ∀ j q, [x, y, z, u][j]? = some q → (w.alloc (.cells #[x, y, z, u] t)).cell? ((⟨w.heap.size, 0, none⟩ : Addr).add j) = some q := by
  intro j q hu
  rw [Addr.add_lit]
  match j, hu with
  | 0, hu => simp only [World.cell?, heap_alloc_new]; simpa using hu
  | 1, hu => simp only [World.cell?, heap_alloc_new]; simpa using hu
  | 2, hu => simp only [World.cell?, heap_alloc_new]; simpa using hu
  | 3, hu => simp only [World.cell?, heap_alloc_new]; simpa using hu
  | j + 4, hu => simp at hu
theorem own_base {w : World} {base base' n : Nat} {e : TypeId} {v : Value} {xs : List Value} (h : w.ownsRow base e 1 v n xs) (hb : base' ≤ base) : w.ownsRow base' e 1 v n xs := by
  refine ⟨h.1, ?_⟩
  rcases h.2 with h2 | ⟨g, cap, cur, hv, hg, r⟩
  · exact .inl h2
  · exact .inr ⟨g, cap, cur, hv, Nat.le_trans hb hg, r⟩
theorem cat_toList (a b : ByteArray) : (a ++ b).data.toList = a.data.toList ++ b.data.toList := by
  rw [ByteArray.data_append, Array.toList_append]
theorem sliceAt_new (w : World) (t : TypeId) (fr : Nat × Nat) (cs : Array Value) (l : List UInt8) (h : cs.toList = l.map byteV) : sliceAt (w.alloc (.cells cs t fr)) (some ⟨w.heap.size, 0, none⟩) l := by
  refine .inr ⟨w.heap.size, 0, rfl, by simp, fun j hj => ?_⟩
  simp only [World.cell?, heap_alloc_new]
  have : cs.toList[0 + j]? = some (byteV l[j]) := by rw [h, Nat.zero_add]; simp [hj]
  simpa using this
theorem bytesArg_string {W : World} {v : Value} {l : List UInt8} (h : bytesArg W v l) : (convert 22 9 v).run Tryz.prog W = .ok (.string ⟨l.toArray⟩) W := by
  obtain ⟨ao, cap, rfl, hc, hm, hs⟩ := h
  rcases hs with rfl | ⟨b, off, rfl, hlt, hcell⟩
  · rcases ao with _ | ad
    · exact run_convert_bytes_nil W 22 5 Tryz.underlying22 Tryz.underlying5 0 cap 9 Tryz.underlying9
    · refine run_convert_bytes_back W _ _ 5 ad cap [] Tryz.underlying22 Tryz.underlying5 Tryz.underlying9 fun j hj => ?_
      simp at hj
  · refine run_convert_bytes_back W _ _ 5 ⟨b, off, none⟩ cap l Tryz.underlying22 Tryz.underlying5 Tryz.underlying9 fun j hj => ?_
    rw [Addr.add_lit]
    exact hcell j hj
theorem sliceAt.cell {W : World} {ao : Option Addr} {l : List UInt8} (h : sliceAt W ao l) (k : Nat) (hk : k < l.length) : ∃ b off, ao = some ⟨b, off, none⟩ ∧ b < W.heap.size ∧ W.cell? ⟨b, off + k, none⟩ = some (.int .u8 (l[k].toNat : Int)) := by
  rcases h with rfl | ⟨b, off, e, hlt, hc⟩
  · simp at hk
  · exact ⟨b, off, e, hlt, hc k hk⟩
theorem below_drewN' {w : World} (n : Nat) : Below w.heap.size w (w.drewN n) := ⟨rfl, rfl, rfl, Nat.le_refl _, fun _ _ => rfl⟩
end Go.Proofs.YtkmgflnmffdhjaaGreatDoor

/- strings.Replacer at two bytes: build. -/
namespace Go.Proofs.YtkmgflnmffdhjaaGreatDoor
open Go Go.RowKit

def nilsl : Value := .slice none 0 0
def bsCells (v : Value) : Array Value := (List.replicate 256 nilsl).toArray.push v
theorem Tryz.infoStrg : (Tryz.prog.info? 9).map (fun i => (i.zero, i.size, i.bytes)) = some (some (.string ⟨#[]⟩), 1, 16) := by kernel_rfl
theorem strs_two (W : World) : (Instr.makeSlice 94 (.int .i64 0) (.int .i64 2)).run Tryz.prog W = .ok (.slice (some ⟨W.heap.size, 0, none⟩) 0 2) (W.alloc (.cells #[.string ⟨#[]⟩, .string ⟨#[]⟩] 9)) := by
  obtain ⟨i, hi, hz⟩ := Option.map_eq_some_iff.1 Tryz.infoStrg
  simp only [Prod.mk.injEq] at hz
  have hr := run_make (P := Tryz.prog) W 94 9 i _ Tryz.underlying94 hi hz.1 .i64 .i64 0 2 (by decide) (by decide) (by rw [hz.2.2]; decide) (by decide)
  rw [hz.2.1] at hr
  exact hr.trans (by kernel_rfl)
theorem bs_at (v : Value) (k : Nat) (h : k < 257) : (bsCells v)[k]? = some (if k = 256 then v else nilsl) := by
  unfold bsCells
  rw [Array.getElem?_push]
  simp only [List.size_toArray, List.length_replicate]
  by_cases hk : k = 256
  · simp [hk]
  · simp only [hk, if_false]
    rw [List.getElem?_toArray, List.getElem?_replicate, if_pos (by omega)]
theorem wpList_store_row' {P : Program} {ops : Array Oper} {rest : List Oper} {o : Oper} {a : Act} {w : World} {Q : Exit → Act → World → Prop} (hgd : o.guard = none) (ty : TypeId) (x y : Operand) (ho : o.op = .store ty x y)
    (g : Nat) (cells : Array Value) (hx : a.eval x = .pointer (some ⟨g, 0, none⟩)) (hy : a.eval y = .agg cells)
    (t : TypeId) (old : Array Value) (hg : w.heap[g]? = some (.cells old t (0, 0))) (hi : (P.info? ty).map (·.size) = some cells.size)
    (hold : old.size = cells.size) (h1 : cells.all (·.oneCell') = true)
    (h : ∀ W', Hid (W' = w.setRow g cells) → wpList P ops Q rest (a.put o.dst undef) W') : wpList P ops Q (o :: rest) a w :=
  wpList_store_row hgd ty x y ho g cells hx hy t old hg hi hold h1 (h _ rfl)

theorem wpList_conv_bytes {P : Program} {ops : Array Oper} {rest : List Oper} {o : Oper} {a : Act} {w : World} {Q : Exit → Act → World → Prop} (hgd : o.guard = none) (x : Operand) (src dst e : TypeId) (ho : o.op = .convert src dst x)
    (s : ByteArray) (hx : a.eval x = .string s) (hs : P.underlying src = some .string) (hd : P.underlying dst = some (.slice e)) (he : P.underlying e = some (.int .u8))
    (h : ∀ W1 cap, rowAt W1 w.heap.size e (s.data.toList.map byteV) → Below w.heap.size w W1 → s.size ≤ cap → wpList P ops Q rest (a.put o.dst (.slice (some ⟨w.heap.size, 0, none⟩) s.size cap)) W1) : wpList P ops Q (o :: rest) a w := by
  obtain ⟨W1, cap, hrun, hrow, hb, hc⟩ := conv_bytes (P := P) w src dst e s hs hd he
  refine wpList_plain hgd fun K hK' => ?_
  unfold Oper.wp
  simp [execOp, ho, hx, hrun, Result.andThen]
  exact hK' _ _ (h W1 cap hrow hb hc)
theorem conv_one0 (w : World) (c : UInt8) (x : Int) (hx : x = (c.toNat : Int)) : (convert 22 9 (.slice (some ⟨w.heap.size, 0, none⟩) 1 1)).run Tryz.prog (w.alloc (.cells #[.int .u8 x] 5)) = .ok (.string ⟨#[c]⟩) (w.alloc (.cells #[.int .u8 x] 5)) := by
  subst hx
  exact run_string_of_row Tryz.underlying22 Tryz.underlying5 Tryz.underlying9 (l := [c]) ⟨#[.int .u8 (c.toNat : Int)], 0, 0, heap_alloc_new w _, fun j _ h => by omega, rfl⟩ rfl
theorem nil_eql (W : World) : (binOp .eql 22 (.slice none 0 0) (.slice none 0 0)).run Tryz.prog W = .ok (.bool true) W := by
  have h := run_equal_slice_nil (P := Tryz.prog) W 22 5 none 0 0 Tryz.underlying22
  simp [binOp, h]
/-- A block's first n cells. -/
structure Tab (W : World) (M n : Nat) (F : Nat → Value) : Prop where
  c : ∀ k, k < n → W.cell? ⟨M, k, none⟩ = some (F k)
  z : ∀ k, k < n → W.frozen? ⟨M, k, none⟩ = false
def updF (F : Nat → Value) (k : Nat) (v : Value) : Nat → Value := fun j => if j = k then v else F j
theorem Tab.set {W : World} {M n : Nat} {F : Nat → Value} (h : Tab W M n F) {k : Nat} (hk : k < n) (v : Value) : Tab (W.setCell ⟨M, k, none⟩ v) M n (updF F k v) := by
  refine ⟨fun j hj => ?_, fun j hj => ?_⟩
  · unfold updF
    by_cases e : j = k
    · subst e
      rw [if_pos rfl]
      exact World.cell?_setCell_same W _ _ (h.c j hj)
    · rw [if_neg e]
      exact (World.cell?_setCell_other _ ⟨M, k, none⟩ ⟨M, j, none⟩ _ (by simp)).trans (h.c j hj)
  · rw [World.frozen?_setCell]
    exact h.z j hj
theorem Tab.lt {W : World} {M n : Nat} {F : Nat → Value} (h : Tab W M n F) (hn : 0 < n) : M < W.heap.size := World.block_lt_of_cell? _ _ (h.c 0 hn)
theorem Tab.block {W W' : World} {M n : Nat} {F : Nat → Value} (h : Tab W M n F) (hb : W'.heap[M]? = W.heap[M]?) : Tab W' M n F :=
  ⟨fun k hk => (World.cell?_of_block (a := ⟨M, k, none⟩) hb).trans (h.c k hk), fun k hk => (World.frozen?_of_block (a := ⟨M, k, none⟩) hb).trans (h.z k hk)⟩
theorem Tab.below {W W' : World} {M n : Nat} {F : Nat → Value} (h : Tab W M n F) (hn : 0 < n) (hb : Below W.heap.size W W') : Tab W' M n F := h.block (hb.block M (h.lt hn))
theorem Tab.grown {W W' : World} {M n : Nat} {F : Nat → Value} {row : Option Nat} (h : Tab W M n F) (hn : 0 < n) (hg : W.grownBy W' row) (hr : some M ≠ row) : Tab W' M n F := h.block (hg.block M (h.lt hn) hr)
theorem Tab.of_row {W : World} {M n : Nat} {F : Nat → Value} {cs : Array Value} {t : TypeId} (h : W.heap[M]? = some (.cells cs t (0, 0))) (hc : ∀ k, k < n → cs[k]? = some (F k)) : Tab W M n F :=
  ⟨fun k hk => by simp [World.cell?, h, hc k hk], fun k hk => by simp [World.frozen?, h]⟩

theorem grownBy_setCell (w : World) (p : Addr) (u : Value) : w.grownBy (w.setCell p u) (some p.block) :=
  ⟨rfl, rfl, rfl, by simp, fun k _ hk => Below.heap_setCell w p u k (fun e => hk (by rw [e]))⟩
/-- The tables of a replacer of quotes and strokes. -/
def Esc (lo : Nat) (W : World) (M : Nat) : Prop := ∃ F a34 c34 a92 c92 t ct, (lo ≤ a34 ∧ lo ≤ a92 ∧ lo ≤ t ∧ lo ≤ M) ∧ Tab W M 257 F ∧ F 34 = .slice (some ⟨a34, 0, none⟩) 2 c34 ∧ F 92 = .slice (some ⟨a92, 0, none⟩) 2 c92 ∧ (∀ k, k < 256 → k ≠ 34 → k ≠ 92 → F k = .slice none 0 0) ∧
  F 256 = .slice (some ⟨t, 0, none⟩) 2 ct ∧ rowAt W a34 5 ([92, 34].map byteV) ∧ rowAt W a92 5 ([92, 92].map byteV) ∧ rowAt W t 9 [.string ⟨#[92]⟩, .string ⟨#[34]⟩] ∧ 2 ≤ c34 ∧ 2 ≤ c92 ∧ 2 ≤ ct

set_option maxRecDepth 100000 in
set_option maxHeartbeats 1600000 in
theorem build_any (b q cap : Nat) (w : World) (h4 : w.cell? ⟨b, 4, none⟩ = some (.slice (some ⟨q, 0, none⟩) 4 cap))
    (s0 : w.cell? ⟨q, 0, none⟩ = some (.string ⟨#[34]⟩)) (s1 : w.cell? ⟨q, 1, none⟩ = some (.string ⟨#[92, 34]⟩)) (s2 : w.cell? ⟨q, 2, none⟩ = some (.string ⟨#[92]⟩)) (s3 : w.cell? ⟨q, 3, none⟩ = some (.string ⟨#[92, 92]⟩)) :
    Calls Tryz.prog 160 #[.pointer (some ⟨b, 0, none⟩)] w fun e w' => ∃ M, e = .returned (.iface 271 (.pointer (some ⟨M, 0, none⟩))) ∧ w.heap.size ≤ M ∧ Esc w.heap.size w' M ∧ Below w.heap.size w w' := by
  have hmk := strs_two
  go_enter Tryz.func160, Tryz.ntmps160
  go_wp2_with fail
  refine wp_loop_rounds 3 ?_
  rw [rounds_succ]
  go_wp2_with fail
  rw [rounds_succ]
  go_wp2_with fail
  rw [rounds_succ]
  go_wp2_with (refine wpList_store_row' rfl 270 (.tmp 11) (.tmp 95) rfl (w.heap.size + 1) (bsCells (.slice (some ⟨w.heap.size, 0, none⟩) 0 2)) rfl (by kernel_rfl) 270 Tryz.zeroCells270 (by simpa using heap_alloc_new (w.alloc (.cells #[.string ⟨#[]⟩, .string ⟨#[]⟩] 9)) (.cells Tryz.zeroCells270 270)) (by kernel_rfl) (by kernel_rfl) (by kernel_rfl) ?_; intro W0 hW0)
  obtain ⟨M, hM⟩ : ∃ M, M = w.heap.size + 1 := ⟨_, rfl⟩
  rw [← hM]
  replace hW0 := hW0.out
  rw [← hM] at hW0
  have hr0 : ((w.alloc (.cells #[.string ⟨#[]⟩, .string ⟨#[]⟩] 9)).alloc (.cells Tryz.zeroCells270 270)).heap[M]? = some (.cells Tryz.zeroCells270 270 (0, 0)) := by
    subst hM
    simpa using heap_alloc_new (w.alloc (.cells #[.string ⟨#[]⟩, .string ⟨#[]⟩] 9)) (.cells Tryz.zeroCells270 270)
  have HB0 : Hid (Below w.heap.size w W0) := by
    rw [hW0]
    exact below_setRow (((Below.refl _ _).alloc (Nat.le_refl _) _).alloc (by simp) _) (by omega) _
  have HT0 : Hid (Tab W0 M 257 (fun k => if k = 256 then .slice (some ⟨w.heap.size, 0, none⟩) 0 2 else nilsl)) := by
    rw [hW0]
    exact Tab.of_row (setRow_heap _ M _ _ _ _ hr0) (fun k hk => bs_at _ k hk)
  have HO0 : Hid (W0.ownsRow w.heap.size 9 1 (.slice (some ⟨w.heap.size, 0, none⟩) 0 2) 0 []) := by
    rw [hW0]
    refine ⟨rfl, .inr ⟨w.heap.size, 2, #[.string ⟨#[]⟩, .string ⟨#[]⟩], rfl, Nat.le_refl _, ?_, by decide, by decide, rfl, rfl⟩⟩
    rw [setRow_other _ _ _ _ (by omega), Below.heap_alloc _ _ _ (by simp)]
    exact heap_alloc_new _ _
  have q0 : Hid (w.cell? ⟨q, 0, none⟩ = _) := Lib.hid s0
  have q1 : Hid (w.cell? ⟨q, 1, none⟩ = _) := Lib.hid s1
  have hq0 : q < w.heap.size := World.block_lt_of_cell? _ _ s0
  replace s0 := (HB0.out.cell (p := ⟨q, 0, none⟩) hq0).trans s0
  replace s1 := (HB0.out.cell (p := ⟨q, 1, none⟩) hq0).trans s1
  replace s2 := (HB0.out.cell (p := ⟨q, 2, none⟩) hq0).trans s2
  replace s3 := (HB0.out.cell (p := ⟨q, 3, none⟩) hq0).trans s3
  have c92 := HT0.out.c 92 (by decide)
  have c256 := HT0.out.c 256 (by decide)
  have z92 := HT0.out.z 92 (by decide)
  have z256 := HT0.out.z 256 (by decide)
  simp only [Nat.reduceEqDiff, if_false, if_true] at c92 c256
  unfold nilsl at c92
  have HM : Hid (M = w.heap.size + 1) := hM
  have e92 : ((⟨#[92]⟩ : ByteArray)[0]'(by decide)).toNat = 92 := rfl
  have hnil := nil_eql
  have e34 : ((⟨#[34]⟩ : ByteArray)[0]'(by decide)).toNat = 34 := rfl
  clear hW0 hr0 hM
  have hc92 := fun W => conv_one0 W 92 92 rfl
  have hc34 := fun W => conv_one0 W 34 34 rfl
  obtain ⟨i0, hi, hz⟩ := Option.map_eq_some_iff.1 Tryz.infoStrg
  simp only [Prod.mk.injEq] at hz
  obtain ⟨hz0, hz1, hz2⟩ := hz
  have hMn : M ≠ w.heap.size := by rw [HM.out]; omega
  refine wp_loop_rounds 3 ?_
  rw [rounds_succ]
  go_wp2_with (at_builtin; refine wpList_append_own_at _ rfl _ _ 94 rfl w.heap.size 9 i0 (.string ⟨#[]⟩) 1 16 Tryz.underlying94 hi hz0 hz1 hz2 rfl (by decide) (.slice (some ⟨w.heap.size, 0, none⟩) 0 2) 0 [] rfl ((HO0.out.alloc _).alloc _) ⟨W0.heap.size + 1, 0, none⟩ 1 1 [.string ⟨#[92]⟩] rfl rfl (by simpa using cell_one_new (W0.alloc (.cells #[.int .u8 92] 5)) (.string ⟨#[92]⟩) 9) (by simp [Value.oneCell']) (by decide) (by decide) (by have := HB0.out.size; simp; omega) ?_
               intro v1 U1 hown1 hgrow1 hnil1)
  intro hat1
  clear hnil1
  obtain ⟨g1, k1, rfl, hk1, hkm1, hgl1, hgu1⟩ := ownsRow_slice hown1 (by decide)
  have HA1 : Below W0.heap.size W0 ((W0.alloc (.cells #[.int .u8 92] 5)).alloc (.cells #[.string ⟨#[92]⟩] 9)) := ((Below.refl _ _).alloc (Nat.le_refl _) _).alloc (by simp) _
  have HU1 : Hid (Tab U1 M 257 _) := (HT0.out.below (by decide) HA1).grown (by decide) hgrow1 (fun e => hMn (Option.some.inj e))
  have HV1 : Hid (Below w.heap.size w U1) := Below.grown (HB0.out.trans (HA1.mono HB0.out.size)) hgrow1 (by have := HB0.out.size; simp; omega) (by intro _ h; cases h; exact Nat.le_refl _)
  have hMg1 : M ≠ g1 := by
    have hl := HT0.out.lt (by decide)
    rcases hat1 with h | h
    · cases h
      exact hMn
    · have e : g1 = W0.heap.size + 1 + 1 := by simpa [Value.ownBlock] using h
      omega
  have d1a := HU1.out.c 256 (by decide)
  have d1b := HU1.out.z 256 (by decide)
  have HS1 : Hid (Tab (U1.setCell ⟨M, 256, none⟩ (.slice (some ⟨g1, 0, none⟩) 1 k1)) M 257 _) := HU1.out.set (by decide) _
  have HX1 : Hid ((U1.setCell ⟨M, 256, none⟩ (.slice (some ⟨g1, 0, none⟩) 1 k1)).ownsRow w.heap.size 9 1 (.slice (some ⟨g1, 0, none⟩) 1 k1) 1 _) := hown1.kept (row := some M) (grownBy_setCell _ _ _) (.inr (by simpa [Value.ownBlock] using fun e => hMg1 e.symm))
  have HP1 : Hid (Below W0.heap.size W0 U1 ∨ True) := .inr trivial
  clear hown1
  go_wp2_with (refine wpList_conv_bytes rfl (.tmp 127) 9 22 5 rfl _ rfl Tryz.underlying9 Tryz.underlying22 Tryz.underlying5 ?_; intro V1 p1 hrow1 hb1 hp1; have e1a := (HS1.out.below (by decide) hb1).z 92 (by decide); have e1b := (HS1.out.below (by decide) hb1).c 92 (by decide))
  obtain ⟨A1, hA1⟩ : ∃ A, A = U1.heap.size := ⟨_, rfl⟩
  rw [← hA1]
  have hszU1 : (U1.setCell ⟨M, 256, none⟩ (.slice (some ⟨g1, 0, none⟩) 1 k1)).heap.size = A1 := by rw [hA1]; simp
  rw [hszU1] at hrow1
  obtain ⟨X1, hX1⟩ : ∃ X, X = V1.setCell ⟨M, 92, none⟩ (.slice (some ⟨A1, 0, none⟩) 2 p1) := ⟨_, rfl⟩
  rw [← hX1]
  have hMA1 : M < A1 := by have := HT0.out.lt (by decide); have := hgrow1.size; simp at this; omega
  have HT1 := Lib.hid ((HS1.out.below (by decide) hb1).set (k := 92) (by decide) (.slice (some ⟨A1, 0, none⟩) 2 p1))
  rw [← hX1] at HT1
  have HB1 : Hid (Below w.heap.size w X1) := by
    rw [hX1]
    have h1 : Below w.heap.size w (U1.setCell ⟨M, 256, none⟩ (.slice (some ⟨g1, 0, none⟩) 1 k1)) := HV1.out.setCell (p := ⟨M, 256, none⟩) (by show w.heap.size ≤ M; rw [HM.out]; omega) _
    exact (h1.trans (hb1.mono h1.size)).setCell (p := ⟨M, 92, none⟩) (by show w.heap.size ≤ M; rw [HM.out]; omega) _
  have HO1 : Hid (X1.ownsRow w.heap.size 9 1 (.slice (some ⟨g1, 0, none⟩) 1 k1) 1 [.string ⟨#[92]⟩]) := by
    rw [hX1]
    exact (ownsRow_below HX1.out hb1).kept (row := some M) (grownBy_setCell _ _ _) (.inr (by simpa [Value.ownBlock] using fun e => hMg1 e.symm))
  have HR1 : Hid (rowAt X1 A1 5 ([92, 92].map byteV)) := by
    rw [hX1]
    exact hrow1.below (Below.heap_setCell _ _ _ _ (by show A1 ≠ M; omega))
  have HA1lt : Hid (A1 < X1.heap.size) := HR1.out.lt
  replace s0 := (HB1.out.cell (p := ⟨q, 0, none⟩) hq0).trans q0.out
  replace s1 := (HB1.out.cell (p := ⟨q, 1, none⟩) hq0).trans q1.out
  have c34 := HT1.out.c 34 (by decide)
  have c256 := HT1.out.c 256 (by decide)
  have z34 := HT1.out.z 34 (by decide)
  have z256 := HT1.out.z 256 (by decide)
  simp only [updF, Nat.reduceEqDiff, if_false, if_true] at c34 c256
  unfold nilsl at c34
  have hAg1 : A1 ≠ g1 := by omega
  clear hX1 hszU1 hrow1 e1a e1b HS1 HX1 hb1 HA1 HU1 HV1 d1a d1b s2 s3 hA1 hat1 hgrow1 HP1
  rw [rounds_succ]
  go_wp2_with (at_builtin; refine wpList_append_own_at _ rfl _ _ 94 rfl w.heap.size 9 i0 (.string ⟨#[]⟩) 1 16 Tryz.underlying94 hi hz0 hz1 hz2 rfl (by decide) (.slice (some ⟨g1, 0, none⟩) 1 k1) 1 [.string ⟨#[92]⟩] rfl ((HO1.out.alloc _).alloc _) ⟨X1.heap.size + 1, 0, none⟩ 1 1 [.string ⟨#[34]⟩] rfl rfl (by simpa using cell_one_new (X1.alloc (.cells #[.int .u8 34] 5)) (.string ⟨#[34]⟩) 9) (by simp [Value.oneCell']) (by decide) (by decide) (by have := HB1.out.size; simp; omega) ?_
               intro v2 U2 hown2 hgrow2 hnil2)
  intro hat2
  clear hnil2
  obtain ⟨g2, k2, rfl, hk2, hkm2, hgl2, hgu2⟩ := ownsRow_slice hown2 (by decide)
  have HA2 : Below X1.heap.size X1 ((X1.alloc (.cells #[.int .u8 34] 5)).alloc (.cells #[.string ⟨#[34]⟩] 9)) := ((Below.refl _ _).alloc (Nat.le_refl _) _).alloc (by simp) _
  have HU2 : Hid (Tab U2 M 257 _) := (HT1.out.below (by decide) HA2).grown (by decide) hgrow2 (fun e => hMg1 (Option.some.inj e))
  have HV2 : Hid (Below w.heap.size w U2) := Below.grown (HB1.out.trans (HA2.mono HB1.out.size)) hgrow2 (by have := HB1.out.size; simp; omega) (by intro _ h; cases h; exact hgl1)
  have hMg2 : M ≠ g2 := by
    have hl := HT1.out.lt (by decide)
    rcases hat2 with h | h
    · cases h
      exact hMg1
    · have e : g2 = X1.heap.size + 1 + 1 := by simpa [Value.ownBlock] using h
      omega
  have d2a := HU2.out.c 256 (by decide)
  have d2b := HU2.out.z 256 (by decide)
  have HS2 : Hid (Tab (U2.setCell ⟨M, 256, none⟩ (.slice (some ⟨g2, 0, none⟩) 2 k2)) M 257 _) := HU2.out.set (by decide) _
  have HX2 : Hid ((U2.setCell ⟨M, 256, none⟩ (.slice (some ⟨g2, 0, none⟩) 2 k2)).ownsRow w.heap.size 9 1 (.slice (some ⟨g2, 0, none⟩) 2 k2) 2 _) := hown2.kept (row := some M) (grownBy_setCell _ _ _) (.inr (by simpa [Value.ownBlock] using fun e => hMg2 e.symm))
  have HP2 : Hid (Below X1.heap.size X1 U2 ∨ True) := .inr trivial
  clear hown2
  go_wp2_with (refine wpList_conv_bytes rfl (.tmp 127) 9 22 5 rfl _ rfl Tryz.underlying9 Tryz.underlying22 Tryz.underlying5 ?_; intro V2 p2 hrow2 hb2 hp2; have e2a := (HS2.out.below (by decide) hb2).z 34 (by decide); have e2b := (HS2.out.below (by decide) hb2).c 34 (by decide))
  obtain ⟨A2, hA2⟩ : ∃ A, A = U2.heap.size := ⟨_, rfl⟩
  rw [← hA2]
  have hszU2 : (U2.setCell ⟨M, 256, none⟩ (.slice (some ⟨g2, 0, none⟩) 2 k2)).heap.size = A2 := by rw [hA2]; simp
  rw [hszU2] at hrow2
  obtain ⟨X2, hX2⟩ : ∃ X, X = V2.setCell ⟨M, 34, none⟩ (.slice (some ⟨A2, 0, none⟩) 2 p2) := ⟨_, rfl⟩
  rw [← hX2]
  have hMA2 : M < A2 := by have := HT1.out.lt (by decide); have := hgrow2.size; simp at this; omega
  have hA12 : A1 < A2 := by have := HA1lt.out; have := hgrow2.size; simp at this; omega
  have HT2 := Lib.hid ((HS2.out.below (by decide) hb2).set (k := 34) (by decide) (.slice (some ⟨A2, 0, none⟩) 2 p2))
  rw [← hX2] at HT2
  have HB2 : Hid (Below w.heap.size w X2) := by
    rw [hX2]
    have h1 : Below w.heap.size w (U2.setCell ⟨M, 256, none⟩ (.slice (some ⟨g2, 0, none⟩) 2 k2)) := HV2.out.setCell (p := ⟨M, 256, none⟩) (by show w.heap.size ≤ M; rw [HM.out]; omega) _
    exact (h1.trans (hb2.mono h1.size)).setCell (p := ⟨M, 34, none⟩) (by show w.heap.size ≤ M; rw [HM.out]; omega) _
  have HO2 : Hid (X2.ownsRow w.heap.size 9 1 (.slice (some ⟨g2, 0, none⟩) 2 k2) 2 [.string ⟨#[92]⟩, .string ⟨#[34]⟩]) := by
    rw [hX2]
    exact (ownsRow_below HX2.out hb2).kept (row := some M) (grownBy_setCell _ _ _) (.inr (by simpa [Value.ownBlock] using fun e => hMg2 e.symm))
  have HR2 : Hid (rowAt X2 A2 5 ([92, 34].map byteV)) := by
    rw [hX2]
    exact hrow2.below (Below.heap_setCell _ _ _ _ (by show A2 ≠ M; omega))
  have HR1' : Hid (rowAt X2 A1 5 ([92, 92].map byteV)) := by
    rw [hX2]
    have h1 : rowAt U2 A1 5 ([92, 92].map byteV) := (HR1.out.below (HA2.block A1 HA1lt.out)).below (hgrow2.block A1 (by have := HA2.size; have := HA1lt.out; omega) (by intro e; have e : A1 = g1 := Option.some.inj e; exact hAg1 e))
    have h2 := h1.below (Below.heap_setCell U2 ⟨M, 256, none⟩ (.slice (some ⟨g2, 0, none⟩) 2 k2) A1 (by show A1 ≠ M; omega))
    have h3 := h2.below (hb2.block A1 h2.lt)
    exact h3.below (Below.heap_setCell _ _ _ _ (by show A1 ≠ M; omega))
  clear hX2 hszU2 hrow2 e2a e2b HS2 HX2 hb2 HA2 HU2 HV2 d2a d2b s0 s1 hA2 hat2 hgrow2 HP2
  rw [rounds_succ]
  go_wp2_with fail
  go_ret
  have hw2 := rowAt_owned HO2.out
  refine ⟨M, rfl, by rw [HM.out]; omega, ⟨_, A2, p2, A1, p1, g2, k2, ⟨by have := HM.out; omega, by have := HM.out; omega, hgl2, by have := HM.out; omega⟩, HT2.out, ?_, ?_, ?_, ?_, HR2.out, HR1'.out, hw2, hp2, hp1, hk2⟩, HB2.out⟩
  · simp [updF]
  · simp [updF]
  · intro k hk k1 k2
    simp only [updF]
    rw [if_neg k1, if_neg (by omega), if_neg k2, if_neg (by omega), if_neg (by omega)]
    rfl
  · simp [updF]
end Go.Proofs.YtkmgflnmffdhjaaGreatDoor
