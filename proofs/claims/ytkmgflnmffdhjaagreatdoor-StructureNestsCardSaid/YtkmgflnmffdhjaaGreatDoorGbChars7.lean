/- Small laws of my own, of no program: rows of cells that the call has made. -/
import Derived.WalkKit
import Derived.WalkSpells
import Derived.BigQuiet
import Derived.Deep.QuietTactic
import Derived.Deep.LoopGhost
import Derived.Laws.IdiomStrings
import Derived.Laws.BytesArg
import Derived.Lib.Hide
import Derived.Test.YtkmgflnmffdhjaaGreatDoorCards
import Derived.Test.YtkmgflnmffdhjaaGreatDoorTie
import Derived.ProofKit
import Derived.OpenShut
import Derived.Deep.DeepHandedRow
import Derived.Lib.LaidTab
import Derived.Stop.LaidErr
import Derived.LaidSub
import Derived.Lay
import Derived.MakeChecks
import Derived.Test.YtkmgflnmffdhjaaGreatDoorProg
import Derived.Test.YtkmgflnmffdhjaaGreatDoorShelf4
import Derived.Lib.ItoaLen
import Derived.Lib.AppendIntMem
namespace Go.Proofs.YtkmgflnmffdhjaaGreatDoor
open Go Go.RowKit

def byteV (b : UInt8) : Value := .int .u8 (b.toNat : Int)

/-- Block B is a row of cells of type e; its first cells are xs; none of these is frozen. -/
def rowAt (w : World) (B : Nat) (e : TypeId) (xs : List Value) : Prop :=
  ∃ C lo hi, w.heap[B]? = some (.cells C e (lo, hi)) ∧ (∀ j, j < xs.length → ¬ (lo ≤ j ∧ j < hi)) ∧ C.toList.take xs.length = xs

theorem rowAt.lt {w : World} {B : Nat} {e : TypeId} {xs : List Value} (h : rowAt w B e xs) : B < w.heap.size := by
  obtain ⟨C, lo, hi, h1, _⟩ := h
  exact (Array.getElem?_eq_some_iff.1 h1).1
theorem rowAt.len {C : Array Value} {xs : List Value} (h : C.toList.take xs.length = xs) : xs.length ≤ C.size := by
  have := congrArg List.length h
  simp at this
  omega
theorem rowAt.cell {w : World} {B : Nat} {e : TypeId} {xs : List Value} (h : rowAt w B e xs) (k : Nat) (hk : k < xs.length) : w.cell? ⟨B, k, none⟩ = some xs[k] := by
  obtain ⟨C, lo, hi, h1, _, h3⟩ := h
  have hl := rowAt.len h3
  have h4 : C.toList[k]? = some xs[k] := by
    have := congrArg (fun l => l[k]?) h3
    simp only [List.getElem?_take, hk, if_true, List.getElem?_eq_getElem hk] at this
    exact this
  simp [World.cell?, h1]
  simpa using h4
theorem rowAt.frozen {w : World} {B : Nat} {e : TypeId} {xs : List Value} (h : rowAt w B e xs) (k : Nat) (hk : k < xs.length) : w.frozen? ⟨B, k, none⟩ = false := by
  obtain ⟨C, lo, hi, h1, h2, _⟩ := h
  have := h2 k hk
  simp [World.frozen?, h1]
  omega
theorem rowAt.set {w : World} {B : Nat} {e : TypeId} {xs : List Value} (h : rowAt w B e xs) (k : Nat) (u : Value) : rowAt (w.setCell ⟨B, k, none⟩ u) B e (xs.set k u) := by
  obtain ⟨C, lo, hi, h1, h2, h3⟩ := h
  refine ⟨C.setIfInBounds k u, lo, hi, ?_, by simpa using h2, ?_⟩
  · simp [World.setCell, Array.getElem?_modify, h1]
  · rw [Array.toList_setIfInBounds, List.length_set, List.take_set, h3]
theorem rowAt.below {w w' : World} {B : Nat} {e : TypeId} {xs : List Value} (h : rowAt w B e xs) (hb : w'.heap[B]? = w.heap[B]?) : rowAt w' B e xs := by
  obtain ⟨C, lo, hi, h1, h2, h3⟩ := h
  exact ⟨C, lo, hi, by rw [hb]; exact h1, h2, h3⟩
/-- '[]byte(s)': what it lays. -/
theorem rowAt_bytes (w : World) (s : ByteArray) (cap : Nat) (e : TypeId) (o : Nat) :
    rowAt (w.alloc (.cells (bytesRow s cap) e ((bytesRow s cap).size, o))) w.heap.size e (s.data.toList.map byteV) := by
  refine ⟨bytesRow s cap, (bytesRow s cap).size, o, heap_alloc_new w _, ?_, ?_⟩
  · intro j hj h
    simp [bytesRow] at hj h
    omega
  · simp [bytesRow, byteV]

/-- '[]byte(s)' under one name: the row that it lays, in a world that is a variable. -/
theorem conv_bytes {P : Program} (w : World) (src dst e : TypeId) (s : ByteArray) (hs : P.underlying src = some .string) (hd : P.underlying dst = some (.slice e)) (he : P.underlying e = some (.int .u8)) :
    ∃ W1 cap, (convert src dst (.string s)).run P w = .ok (.slice (some ⟨w.heap.size, 0, none⟩) s.size cap) W1 ∧ rowAt W1 w.heap.size e (s.data.toList.map byteV) ∧ Below w.heap.size w W1 ∧ s.size ≤ cap :=
  ⟨_, _, run_bytes_of_string (P := P) w src dst e s hs hd he, rowAt_bytes w.drew s _ e _, (Below.refl _ _).drew.alloc (Nat.le_refl _) _, grownCap_ge _ _ _ _⟩

theorem rowAt_owned {w : World} {base : Nat} {e : TypeId} {g n cap : Nat} {xs : List Value} (h : w.ownsRow base e 1 (.slice (some ⟨g, 0, none⟩) n cap) n xs) : rowAt w g e xs := by
  obtain ⟨h1, h2⟩ := h
  rcases h2 with ⟨h2, _⟩ | ⟨g', cap', cur, hv, _, hh, _, _, _, ht⟩
  · cases h2
  · cases hv
    refine ⟨cur, 0, 0, hh, fun j _ h => by omega, ?_⟩
    rw [h1]
    exact ht

/-- 'string(b)' of a row of bytes. -/
theorem run_string_of_row {P : Program} {w : World} {src dst e : TypeId} {B n cap : Nat} {l : List UInt8} (hs : P.underlying src = some (.slice e)) (he : P.underlying e = some (.int .u8)) (hd : P.underlying dst = some .string)
    (h : rowAt w B e (l.map byteV)) (hn : n = l.length) :
    (convert src dst (.slice (some ⟨B, 0, none⟩) n cap)).run P w = .ok (.string ⟨l.toArray⟩) w := by
  subst hn
  refine run_convert_bytes_back w src dst e ⟨B, 0, none⟩ cap l hs he hd fun j hj => ?_
  rw [Addr.add_lit, Nat.zero_add, h.cell j (by simpa using hj)]
  simp [byteV]

theorem ownsRow_below {w w' : World} {base : Nat} {e : TypeId} {size : Nat} {v : Value} {n : Nat} {xs : List Value} (h : w.ownsRow base e size v n xs) (hb : Below w.heap.size w w') : w'.ownsRow base e size v n xs := by
  refine ⟨h.1, ?_⟩
  rcases h.2 with h2 | ⟨g, cap, cur, hv, hg, hh, r⟩
  · exact .inl h2
  · exact .inr ⟨g, cap, cur, hv, hg, by rw [hb.block g (Array.getElem?_eq_some_iff.1 hh).1]; exact hh, r⟩
theorem ownsRow_slice {w : World} {base : Nat} {e : TypeId} {size : Nat} {v : Value} {n : Nat} {xs : List Value} (h : w.ownsRow base e size v n xs) (hn : 0 < n) : ∃ g cap, v = .slice (some ⟨g, 0, none⟩) n cap ∧ n ≤ cap ∧ cap ≤ maxLen ∧ base ≤ g ∧ g < w.heap.size := by
  rcases h.2 with ⟨_, h2⟩ | ⟨g, cap, cur, hv, hg, hh, hc, hm, _⟩
  · omega
  · exact ⟨g, cap, hv, hc, hm, hg, (Array.getElem?_eq_some_iff.1 hh).1⟩

theorem quiet_same' {P : Program} {f : FuncId} {args : Array Value} {w : World} {n : Nat} {v : Value}
    (h : Calls P f args (w.drewN n) fun e w' => e = .returned v ∧ w.drewN n = w') : Calls P f args (w.drewN n) fun e w'' => e = .returned v ∧ ∃ m, w'' = w.drewN m :=
  h.mono fun _ _ ⟨he, hm⟩ => ⟨he, n, hm.symm⟩

theorem ret_int {k : IntKind} {a b : Int} (h : a = b) : Ending.returned (.int k a) = .returned (.int k b) := by rw [h]
theorem ret_bool {a b : Bool} (h : a = b) : Ending.returned (.bool a) = .returned (.bool b) := by rw [h]
theorem ret_str {a b : ByteArray} (h : a = b) : Ending.returned (.string a) = .returned (.string b) := by rw [h]
theorem beq_no {a b : Int} (h : ¬ a = b) : (a == b) = false := beq_eq_false_iff_ne.2 h
theorem beq_yes {a b : Int} (h : a = b) : (a == b) = true := beq_iff_eq.2 h
theorem bne_no {a b : Int} (h : a = b) : (a != b) = false := by subst h; simp
theorem bne_yes {a b : Int} (h : ¬ a = b) : (a != b) = true := bne_iff_ne.2 h
theorem byte_lt (b : UInt8) : (b.toNat : Int) < 256 := by have := b.toNat_lt; omega
theorem bytes_eq {a b : ByteArray} (h : a.data.toList = b.data.toList) : a = b := by
  apply ByteArray.ext
  exact Array.toList_inj.1 h
theorem extract_toList (s : ByteArray) (a b : Nat) : (s.extract a b).data.toList = (s.data.toList.drop a).take (b - a) := by
  simp [ByteArray.data_extract, List.extract_eq_take_drop]
theorem bytes_len (s : ByteArray) : s.size = s.data.toList.length := by simp
theorem bytes_get (s : ByteArray) (k : Nat) (h : k < s.size) : s.data.toList[k]? = some s[k] := by
  rw [List.getElem?_eq_getElem (by simpa using h)]; rfl
theorem take_snoc (s : ByteArray) (k : Nat) (h : k < s.size) : s.data.toList.take (k + 1) = s.data.toList.take k ++ [s[k]] := by
  rw [List.take_succ_eq_append_getElem (by simpa using h)]; rfl
theorem take_all (s : ByteArray) (k : Nat) (h : ¬ k < s.size) : s.data.toList.take k = s.data.toList := List.take_of_length_le (by simp; omega)
theorem len_toList (s : ByteArray) : s.data.toList.length = s.size := by simp
theorem head_at (s : ByteArray) (h : 0 < s.size) : s.data.toList.head? = some s[0] := by
  rw [List.head?_eq_getElem?, List.getElem?_eq_getElem (by simpa using h)]; rfl
theorem drop_cons (s : ByteArray) (k : Nat) (h : k < s.size) : s.data.toList.drop k = s[k] :: s.data.toList.drop (k + 1) := by
  rw [List.drop_eq_getElem_cons (by simpa using h)]; rfl
theorem extract_len (s : ByteArray) (a b : Nat) : (s.extract a b).size = min (b - a) (s.size - a) := by
  rw [bytes_len, extract_toList, List.length_take, List.length_drop, ← bytes_len]
theorem extract_size' (s : ByteArray) (a b : Nat) (h : b ≤ s.size) : (s.extract a b).size = b - a := by
  rw [extract_len]
  omega
theorem toList_nil_iff (s : ByteArray) : s.toList = [] ↔ s.size = 0 := by
  rw [ByteArray.toList_eq]
  constructor
  · intro h
    have := congrArg List.length h
    simpa using this
  · intro h
    exact List.eq_nil_of_length_eq_zero (by simpa using h)
end Go.Proofs.YtkmgflnmffdhjaaGreatDoor

/- What every statement's frame shares: a law that answers true and turns nothing that was there. -/
namespace Go.Proofs.YtkmgflnmffdhjaaGreatDoor
open Go Go.RowKit Go.ChangeShapes Go.WideShapes Go.ChangeAt

theorem row_own : ownKnob Tryz.prog.godebug = none := by kernel_rfl
theorem row_laidOut : laidOutB Tryz.prog = true := by kernel_rfl

theorem trodAll_below {H : Type} {enc : TypeId × Value → H} {P : Program} (hl : laidOutB P = true) {W W' : World} (hb : Below W.heap.size W W') :
    ∀ {ts : List TypeId} {vs : List Value} {ds : List (DataW H)} {ps : List MemPlace}, (∀ t ∈ ts, P.readableRec t = true ∧ t < P.types.size) →
      DataW.TrodAll enc P W 0 (fun _ => true) true ts vs ds ps → (∀ x ∈ ps, x.block < W.heap.size) → DataW.TrodAll enc P W' 0 (fun b => decide (b < W.heap.size)) true ts vs ds ps
  | [], [], [], ps, _, h, _ => h
  | t :: ts, v :: vs, d :: ds, ps, hr, h, hlt => by
    obtain ⟨p, q, h1, h2, rfl⟩ := h
    obtain ⟨r1, r2⟩ := hr t (List.mem_cons_self ..)
    exact ⟨p, q, Below.trod hl r1 r2 h1 hb (fun x hx => hlt x (List.mem_append.2 (.inl hx))), trodAll_below hl hb (fun u hu => hr u (List.mem_cons_of_mem _ hu)) h2 (fun x hx => hlt x (List.mem_append.2 (.inr hx))), rfl⟩

/-- A LAW's POST: it answered true, and below the heap's old size nothing has turned. -/
theorem law_post {H : Type} {enc : TypeId × Value → H} {P : Program} {f : Func} {s : ChangeSpec} {fresh : Bool} {W W' : World} {args : Array Value} {ds gs : List (DataW H)} {before : List MemPlace} {bt : TypeId}
    (hl : laidOutB P = true) (hW : DataW.Whole enc P f.params.toList s.vars false W args.toList ds gs before) (hb : Below W.heap.size W W')
    (hvars : s.vars = []) (hres : f.resultTypes = #[bt]) (hbt : P.underlying bt = some .bool) (hts : ∀ t ∈ f.params.toList, P.readableRec t = true ∧ t < P.types.size)
    (hfn : gs = [] → (s.fn H (ds ++ gs)).results = [.lit (.bool true)] ∧ (s.fn H (ds ++ gs)).args = ds ∧ (s.fn H (ds ++ gs)).vars = []) :
    s.post enc P f false fresh false false W args (.bool true) W' := by
  have hW0 := hW
  have hlt := fun p hp => hW.lt p hp
  obtain ⟨p, q, hA, hV, rfl, hfz, hnd⟩ := hW
  obtain ⟨rfl, rfl⟩ : gs = [] ∧ q = [] := by
    rw [hvars] at hV
    cases gs with
    | nil => exact ⟨rfl, hV⟩
    | cons g r => exact absurd hV (by intro h; cases h)
  obtain ⟨e1, e2, e3⟩ := hfn rfl
  refine ⟨ds, [], _, [], p, [], hW0, ?_, ?_, ?_, hb.frame _, fun h => by cases h⟩
  · rw [e1, hres]
    exact trodAll_mk1 (shut_bool hbt true)
  · rw [e2]
    exact trodAll_below hl hb hts hA (fun x hx => hlt x (List.mem_append.2 (.inl hx)))
  · rw [e3, hvars]
    rfl

/-- What a slice of bytes that came in reads as. -/
def bytesArg (W : World) (v : Value) (l : List UInt8) : Prop :=
  ∃ ao cap, v = .slice ao l.length cap ∧ l.length ≤ cap ∧ cap ≤ maxLen ∧ (l = [] ∨ ∃ b off, ao = some ⟨b, off, none⟩ ∧ b < W.heap.size ∧ ∀ j, (h : j < l.length) → W.cell? ⟨b, off + j, none⟩ = some (byteV l[j]))

theorem u8_of_wf {n : Int} (h : (Lit.int .u8 n).wf = true) : byteV (UInt8.ofNat n.toNat) = .int .u8 n := by
  have hb := bounds_u8 h
  unfold byteV
  have : ((UInt8.ofNat n.toNat).toNat : Int) = n := by
    rw [UInt8.toNat_ofNat']
    omega
  rw [this]

theorem bytesArg_open {H : Type} {enc : TypeId × Value → H} {P : Program} {W : World} {base : Nat} {t e : TypeId} {v : Value} {d : DataW H} {p : List MemPlace}
    (ht : P.underlying t = some (.slice e)) (he : P.underlying e = some (.int .u8)) (hc : P.cellsOf e = 1)
    (hv : Value.okWide P W .any base t v) (h : DataW.Trod enc P W 0 (fun _ => true) true t v d p) : ∃ l, bytesArg W v l := by
  obtain ⟨a0, len, cap, rfl⟩ := okWide_slice ht hv
  obtain ⟨fuel, hf⟩ := h
  rcases open_ints ht he hc hf with ⟨hcs, hx⟩ | ⟨a, len', cap', zs, hcs, _, hl, hm, hz, hx, hcell, hwz⟩
  · simp [Value.cells] at hcs
    obtain ⟨rfl, rfl, rfl⟩ := hcs
    exact ⟨[], none, 0, rfl, Nat.le_refl _, Nat.zero_le _, .inl rfl⟩
  · simp [Value.cells] at hcs
    obtain ⟨rfl, rfl, rfl⟩ := hcs
    have hz' : zs.length = cap := by simpa using hz
    refine ⟨(zs.take len).map (fun n => UInt8.ofNat n.toNat), some a, cap, ?_, ?_, hm, ?_⟩
    · congr 1; simp; omega
    · simp; omega
    · by_cases h0 : len = 0
      · left; subst h0; simp
      · right
        obtain ⟨b, off, rfl, hc2⟩ := ints_at hcell (by omega)
        refine ⟨b, off, rfl, ?_, ?_⟩
        · have := hc2 0 (by omega)
          exact World.block_lt_of_cell? W _ this
        · intro j hj
          have hj' : j < zs.length := by simp at hj; omega
          rw [hc2 j hj']
          simp only [List.getElem_map, List.getElem_take]
          rw [u8_of_wf (hwz _ (List.getElem_mem hj'))]
          simp [List.getD, hj']
end Go.Proofs.YtkmgflnmffdhjaaGreatDoor

/- Contracts of the functions of package chars and of the document's answers to them: single bytes. -/
namespace Go.Proofs.YtkmgflnmffdhjaaGreatDoor
open Go Go.RowKit

/-- A letter's small one. -/
def lowI (c : Int) : Int := if 65 ≤ c ∧ c ≤ 90 then c + 32 else c

theorem lower_any (c : Int) (w : World) (h0 : 0 ≤ c) (h1 : c ≤ 255) :
    Calls Tryz.prog 98 #[.int .u8 c] w fun e w' => e = .returned (.int .u8 (lowI c)) ∧ w = w' := by
  by_cases a : 65 ≤ c
  · by_cases b : c ≤ 90
    · go_enter Tryz.func98, Tryz.ntmps98
      go_wp2
      go_ret
      exact ⟨ret_int (by unfold lowI; rw [if_pos ⟨a, b⟩]; omega), rfl⟩
    · go_enter Tryz.func98, Tryz.ntmps98
      go_wp2
      go_ret
      exact ⟨ret_int (by unfold lowI; rw [if_neg (by omega)]), rfl⟩
  · go_enter Tryz.func98, Tryz.ntmps98
    go_wp2
    go_ret
    exact ⟨ret_int (by unfold lowI; rw [if_neg (by omega)]), rfl⟩

theorem seen_any (c : Int) (w : World) (h0 : 0 ≤ c) (h1 : c ≤ 255) :
    Calls Tryz.prog 151 #[.int .u8 c] w fun e w' => e = .returned (.bool (decide (33 ≤ c ∧ c ≤ 126))) ∧ w = w' := by
  by_cases a : 33 ≤ c
  · go_enter Tryz.func151, Tryz.ntmps151
    go_wp2
    go_ret
    exact ⟨ret_bool (by simp [a]), rfl⟩
  · go_enter Tryz.func151, Tryz.ntmps151
    go_wp2
    go_ret
    exact ⟨ret_bool (by simp; omega), rfl⟩

theorem blank_any (c : Int) (w : World) :
    Calls Tryz.prog 81 #[.int .u8 c] w fun e w' => e = .returned (.bool (decide (c = 32 ∨ c = 9))) ∧ w = w' := by
  by_cases a : c = 32
  · have ha : (c == 32) = true := by simp [a]
    clear a
    go_enter Tryz.func81, Tryz.ntmps81
    go_wp2
    go_ret
    exact ⟨ret_bool (by simp at ha; simp [ha]), rfl⟩
  · have ha : (c == 32) = false := by simp [a]
    clear a
    go_enter Tryz.func81, Tryz.ntmps81
    go_wp2
    go_ret
    exact ⟨ret_bool (by simp at ha; simp [ha]; rfl), rfl⟩

/-- Is a byte among those of a text? -/
def hasI (s : ByteArray) (c : Int) : Bool := s.data.toList.any fun b => (b.toNat : Int) == c

theorem hasI_at {s : ByteArray} {c : Int} {k : Nat} (h : k < s.size) (e : (s[k].toNat : Int) = c) : hasI s c = true := by
  unfold hasI
  rw [List.any_eq_true]
  exact ⟨s[k], by simp [ByteArray.getElem_eq_getElem_data], by simpa using e⟩

theorem hasI_not {s : ByteArray} {c : Int} (h : ∀ k, (hk : k < s.size) → (s[k].toNat : Int) ≠ c) : hasI s c = false := by
  unfold hasI
  rw [List.any_eq_false]
  intro b hb
  obtain ⟨k, hk, rfl⟩ := List.getElem_of_mem hb
  have := h k (by simpa using hk)
  simpa [ByteArray.getElem_eq_getElem_data] using this

theorem among_any (c : Int) (s : ByteArray) (w : World) (h0 : 0 ≤ c) (h1 : c ≤ 255) (hs : ∀ k, (h : k < s.size) → s[k].toNat < 128) (hl : s.size ≤ 9223372036854775807) :
    Calls Tryz.prog 152 #[.int .u8 c, .string s] w fun e w' => e = .returned (.bool (hasI s c)) ∧ ∃ p, w' = w.iter s p := by
  go_enter Tryz.func152, Tryz.ntmps152
  go_wp2
  go_loopg [6] s.size (fun g _ wr => ∃ k : Nat, k ≤ s.size ∧ g = s.size - k ∧ wr = w.iter s k ∧ Hid (∀ j, (h : j < s.size) → j < k → (s[j].toNat : Int) ≠ c))
  case atStart => exact ⟨0, by omega, by omega, rfl, fun j _ hj => by omega⟩
  case round =>
    obtain ⟨k, hk, rfl, rfl, HC⟩ := hrel
    by_cases hlt : k < s.size
    · have hnx : ∀ ty, (Instr.next (.pointer (some ⟨w.heap.size, 0, none⟩)) true ty).run Tryz.prog (w.iter s k) = _ := fun ty => run_next_ascii w s k ty hlt (hs k hlt)
      have hb := hs k hlt
      clear hs
      by_cases hq : (s[k].toNat : Int) = c
      · have ht : ((s[k].toNat : Int) == c) = true := by simpa using hq
        have H := Lib.hid hq; clear hq
        go_wp2
        go_ret
        exact ⟨ret_bool (hasI_at hlt H.out).symm, _, rfl⟩
      · have ht : ((s[k].toNat : Int) == c) = false := by simpa using hq
        have H := Lib.hid hq; clear hq
        go_wp2
        go_roundg (s.size - (k + 1))
        case measure => omega
        case rel =>
          refine ⟨k + 1, by omega, rfl, rfl, ?_⟩
          intro j hj hjk
          by_cases e : j = k
          · subst e; exact H.out
          · exact HC.out j hj (by omega)
    · have hnx : ∀ ty, (Instr.next (.pointer (some ⟨w.heap.size, 0, none⟩)) true ty).run Tryz.prog (w.iter s k) = _ := fun ty => run_next_end w s k ty hlt
      go_wp2
      go_ret
      exact ⟨ret_bool (hasI_not fun j hj => HC.out j hj (by omega)).symm, _, rfl⟩

end Go.Proofs.YtkmgflnmffdhjaaGreatDoor

/- Contracts of Number, of the document's Number, and what a number's text is. -/
namespace Go.Proofs.YtkmgflnmffdhjaaGreatDoor
open Go Go.RowKit

def isDig (b : UInt8) : Bool := decide (48 ≤ (b.toNat : Int) ∧ (b.toNat : Int) ≤ 57)
def numOf (l : List UInt8) : Nat := l.foldl (fun n b => n * 10 + (b.toNat - 48)) 0
def numSpec (l : List UInt8) : Option Nat :=
  if l.length < 1 ∨ 10 < l.length ∨ (l.head? = some 48 ∧ 1 < l.length) ∨ l.all isDig = false ∨ 4294967295 < numOf l then none else some (numOf l)

theorem numOf_snoc (l : List UInt8) (b : UInt8) : numOf (l ++ [b]) = numOf l * 10 + (b.toNat - 48) := by simp [numOf]
theorem isDig_iff (b : UInt8) : isDig b = true ↔ 48 ≤ b.toNat ∧ b.toNat ≤ 57 := by unfold isDig; simp; omega

theorem isDig_false {b : UInt8} (h : ¬ (48 ≤ b.toNat ∧ b.toNat ≤ 57)) : isDig b = false := by have := mt (isDig_iff b).1 h; simpa using this
theorem numOf_lt' (l : List UInt8) (h : l.all isDig = true) (a : Nat) : l.foldl (fun n b => n * 10 + (b.toNat - 48)) a < (a + 1) * 10 ^ l.length := by
  induction l generalizing a with
  | nil => simp
  | cons b l ih =>
    rw [List.all_cons, Bool.and_eq_true] at h
    have h2 := (isDig_iff b).1 h.1
    have h1 := ih h.2 (a * 10 + (b.toNat - 48))
    rw [List.foldl_cons, List.length_cons, Nat.pow_succ, Nat.mul_comm (10 ^ _) 10, ← Nat.mul_assoc]
    exact Nat.lt_of_lt_of_le h1 (Nat.mul_le_mul_right _ (by omega))
theorem numOf_lt (l : List UInt8) (h : l.all isDig = true) : numOf l < 10 ^ l.length := by
  have := numOf_lt' l h 0
  simpa [numOf] using this
theorem numOf_le (l : List UInt8) (h : l.all isDig = true) (hl : l.length ≤ 10) : numOf l ≤ 9999999999 := by
  have h1 := numOf_lt l h
  have h2 : 10 ^ l.length ≤ 10 ^ 10 := Nat.pow_le_pow_right (by decide) hl
  omega
theorem numSpec_short {l : List UInt8} (h : l.length < 1) : numSpec l = none := by unfold numSpec; rw [if_pos (.inl h)]
theorem numSpec_long {l : List UInt8} (h : 10 < l.length) : numSpec l = none := by unfold numSpec; rw [if_pos (.inr (.inl h))]
theorem numSpec_nought {l : List UInt8} (h : l.head? = some 48) (h1 : 1 < l.length) : numSpec l = none := by unfold numSpec; rw [if_pos (.inr (.inr (.inl ⟨h, h1⟩)))]
theorem numSpec_other {l : List UInt8} (h : l.all isDig = false) : numSpec l = none := by unfold numSpec; rw [if_pos (.inr (.inr (.inr (.inl h))))]
theorem numSpec_great {l : List UInt8} (h : 4294967295 < numOf l) : numSpec l = none := by unfold numSpec; rw [if_pos (.inr (.inr (.inr (.inr h))))]
theorem numSpec_good {l : List UInt8} (h1 : 1 ≤ l.length) (h2 : l.length ≤ 10) (h3 : ¬ (l.head? = some 48 ∧ 1 < l.length)) (h4 : l.all isDig = true) (h5 : numOf l ≤ 4294967295) : numSpec l = some (numOf l) := by
  unfold numSpec
  rw [if_neg]
  simp only [h4]
  simp only [not_or]
  exact ⟨by omega, by omega, h3, by simp, by omega⟩

theorem all_not {s : ByteArray} {k : Nat} (h : k < s.size) (hd : isDig s[k] = false) : s.data.toList.all isDig = false := by
  rw [List.all_eq_false]
  exact ⟨s[k], by simp [ByteArray.getElem_eq_getElem_data], by simp [hd]⟩

def numV (o : Option Nat) : Value := .tuple #[.int .i64 (o.getD 0 : Nat), .bool o.isSome]
theorem numV_none {o : Option Nat} (h : o = none) : Ending.returned (.tuple #[.int .i64 0, .bool false]) = .returned (numV o) := by subst h; rfl
theorem numV_some {o : Option Nat} {n : Nat} (h : o = some n) : Ending.returned (.tuple #[.int .i64 n, .bool true]) = .returned (numV o) := by subst h; rfl

theorem number_any (s : ByteArray) (w : World) (hl : s.size ≤ 9223372036854775807) :
    Calls Tryz.prog 85 #[.string s] w fun e w' => e = .returned (numV (numSpec s.data.toList)) ∧ Below w.heap.size w w' := by
  have HL := Lib.hid (len_toList s)
  by_cases h1 : s.size < 1
  · go_enter Tryz.func85, Tryz.ntmps85
    go_wp2
    go_ret2
    exact ⟨numV_none (numSpec_short (by rw [HL.out]; exact h1)), Below.refl _ _⟩
  · by_cases h2 : 10 < s.size
    · go_enter Tryz.func85, Tryz.ntmps85
      go_wp2
      go_ret2
      exact ⟨numV_none (numSpec_long (by rw [HL.out]; exact h2)), Below.refl _ _⟩
    · have h0 : 0 < s.size := by omega
      by_cases h3 : s[0].toNat = 48 ∧ 1 < s.size
      · obtain ⟨h3, h4⟩ := h3
        have ht : ((s[0].toNat : Int) == 48) = true := by simp; omega
        have H3 := Lib.hid h3; clear h3
        go_enter Tryz.func85, Tryz.ntmps85
        go_wp2
        go_ret2
        exact ⟨numV_none (numSpec_nought (by rw [head_at s h0]; exact congrArg some (UInt8.toNat_inj.1 H3.out)) (by rw [HL.out]; exact h4)), Below.refl _ _⟩
      · have H3 := Lib.hid h3
        by_cases hb : s[0].toNat = 48
        case' pos =>
          have ht : ((s[0].toNat : Int) == 48) = true := by simp; omega
          have h4 : ¬ 1 < s.size := by omega
        case' neg =>
          have ht : ((s[0].toNat : Int) == 48) = false := by simp; omega
          have h4 : True := trivial
        all_goals
          clear h3 hb
          go_enter Tryz.func85, Tryz.ntmps85
          go_wp2
          clear ht
          go_loopg [4] s.size (fun g n wr => ∃ k N : Nat, k ≤ s.size ∧ g = s.size - k ∧ n = .int .i64 N ∧ wr = w.iter s k ∧ N ≤ 9999999999 ∧ Hid (N = numOf (s.data.toList.take k) ∧ (s.data.toList.take k).all isDig = true))
          case atStart => exact ⟨0, 0, by omega, by omega, rfl, rfl, by omega, rfl, rfl⟩
          case round =>
            obtain ⟨k, N, hk, rfl, rfl, rfl, hN, HN⟩ := hrel
            by_cases hlt : k < s.size
            · have HT := Lib.hid (take_snoc s k hlt)
              by_cases ha : s[k].toNat < 128
              · have hnx : ∀ ty, (Instr.next (.pointer (some ⟨w.heap.size, 0, none⟩)) true ty).run Tryz.prog (w.iter s k) = _ := fun ty => run_next_ascii w s k ty hlt ha
                by_cases hd : 48 ≤ s[k].toNat ∧ s[k].toNat ≤ 57
                · have hd1 := hd.1; have hd2 := hd.2
                  have HD : Hid (isDig s[k] = true) := (isDig_iff _).2 hd
                  clear hd
                  go_wp2
                  go_roundg (s.size - (k + 1))
                  case measure => omega
                  case rel =>
                    have e2 : (s.data.toList.take (k + 1)).all isDig = true := by rw [HT.out, List.all_append, HN.out.2]; simp [HD.out]
                    have e1 : N * 10 + (s[k].toNat - 48) = numOf (s.data.toList.take (k + 1)) := by rw [HT.out, numOf_snoc, HN.out.1]
                    refine ⟨k + 1, N * 10 + (s[k].toNat - 48), by omega, rfl, ?_, rfl, ?_, e1, e2⟩
                    · go_num
                    · rw [e1]; exact numOf_le _ e2 (by simp; omega)
                · have HD : Hid (isDig s[k] = false) := isDig_false hd
                  have hd' : (s[k].toNat : Int) < 48 ∨ 57 < (s[k].toNat : Int) := by omega
                  clear hd
                  rcases hd' with hd | hd
                  all_goals
                    go_wp2
                    go_ret2
                    exact ⟨numV_none (numSpec_other (all_not hlt HD.out)), (Below.refl _ _).alloc (Nat.le_refl _) _⟩
              · have hh := (decode_high s k hlt (by omega)).1
                have HD : Hid (isDig s[k] = false) := isDig_false (by omega)
                have hr := decode_le s k
                have hnx : ∀ ty, (Instr.next (.pointer (some ⟨w.heap.size, 0, none⟩)) true ty).run Tryz.prog (w.iter s k) = _ := fun ty => run_next_any w s k ty hlt
                generalize (Utf8.decode s k).1 = r at hnx hh hr
                go_wp2
                go_ret2
                exact ⟨numV_none (numSpec_other (all_not hlt HD.out)), (Below.refl _ _).alloc (Nat.le_refl _) _⟩
            · have hnx : ∀ ty, (Instr.next (.pointer (some ⟨w.heap.size, 0, none⟩)) true ty).run Tryz.prog (w.iter s k) = _ := fun ty => run_next_end w s k ty hlt
              have HT := Lib.hid (take_all s k hlt)
              by_cases hg : N ≤ 4294967295
              · go_wp2
                go_ret2
                have e1 := HN.out.1
                have e2 := HN.out.2
                rw [HT.out] at e1 e2
                refine ⟨numV_some (n := N) (e1 ▸ numSpec_good (by rw [HL.out]; omega) (by rw [HL.out]; omega) ?_ e2 (by omega)), (Below.refl _ _).alloc (Nat.le_refl _) _⟩
                rw [HL.out, head_at s h0]
                intro hx
                exact H3.out ⟨by rw [Option.some.inj hx.1]; rfl, hx.2⟩
              · go_wp2
                go_ret2
                exact ⟨numV_none (numSpec_great (by have := HN.out.1; rw [HT.out] at this; omega)), (Below.refl _ _).alloc (Nat.le_refl _) _⟩

end Go.Proofs.YtkmgflnmffdhjaaGreatDoor

/- Plain facts on lists of bytes: trimming, small letters, parts. Nothing of the program. -/
namespace Go.Proofs.YtkmgflnmffdhjaaGreatDoor

def blk (b : UInt8) : Bool := decide ((b.toNat : Int) = 32 ∨ (b.toNat : Int) = 9)
def trimS (l : List UInt8) : List UInt8 := ((l.dropWhile blk).reverse.dropWhile blk).reverse

theorem dropWhile_app {α : Type} (p : α → Bool) : ∀ (a m : List α), a.all p = true → (a ++ m).dropWhile p = m.dropWhile p
  | [], m, _ => rfl
  | x :: a, m, h => by
    rw [List.all_cons, Bool.and_eq_true] at h
    rw [List.cons_append, List.dropWhile_cons_of_pos h.1, dropWhile_app p a m h.2]
theorem dropWhile_head {α : Type} (p : α → Bool) (m b : List α) (h : ∀ x, m.head? = some x → p x = false) (hm : m ≠ []) : (m ++ b).dropWhile p = m ++ b := by
  match m with
  | [] => exact (hm rfl).elim
  | x :: m => rw [List.cons_append, List.dropWhile_cons_of_neg (by simp [h x rfl])]
theorem dropWhile_all {α : Type} (p : α → Bool) (a : List α) (h : a.all p = true) : a.dropWhile p = [] := by
  have := dropWhile_app p a [] h
  simpa using this

theorem trim_of (a m b : List UInt8) (ha : a.all blk = true) (hb : b.all blk = true) (h1 : ∀ x, m.head? = some x → blk x = false) (h2 : ∀ x, m.getLast? = some x → blk x = false) :
    trimS (a ++ m ++ b) = m := by
  unfold trimS
  rw [List.append_assoc, dropWhile_app blk a _ ha]
  by_cases hm : m = []
  · subst hm
    rw [List.nil_append, dropWhile_all blk b hb]
    rfl
  · rw [dropWhile_head blk m b h1 hm, List.reverse_append, dropWhile_app blk b.reverse _ (by simpa using hb)]
    have := dropWhile_head blk m.reverse [] (by simpa using h2) (by simpa using hm)
    rw [List.append_nil] at this
    rw [this, List.reverse_reverse]

/-- A text falls into blanks, what is left when it is trimmed, and blanks. -/
theorem takeWhile_all {α : Type} (p : α → Bool) : ∀ l : List α, (l.takeWhile p).all p = true
  | [] => rfl
  | x :: l => by
    by_cases h : p x = true
    · rw [List.takeWhile_cons_of_pos h, List.all_cons, h, takeWhile_all p l]; rfl
    · rw [List.takeWhile_cons_of_neg h]; rfl
theorem dropWhile_first {α : Type} (p : α → Bool) : ∀ (l : List α) x, (l.dropWhile p).head? = some x → p x = false
  | [], x, h => by simp at h
  | y :: l, x, h => by
    by_cases hp : p y = true
    · rw [List.dropWhile_cons_of_pos hp] at h; exact dropWhile_first p l x h
    · rw [List.dropWhile_cons_of_neg hp] at h
      simp at h; subst h; simpa using hp
theorem trim_parts (l : List UInt8) : ∃ a b, l = a ++ trimS l ++ b ∧ a.all blk = true ∧ b.all blk = true ∧ (∀ x, (trimS l).head? = some x → blk x = false) ∧ (∀ x, (trimS l).getLast? = some x → blk x = false) := by
  let m := l.dropWhile blk
  have e1 : l = l.takeWhile blk ++ m := (List.takeWhile_append_dropWhile).symm
  have e2 : m.reverse = m.reverse.takeWhile blk ++ m.reverse.dropWhile blk := (List.takeWhile_append_dropWhile).symm
  have e3 : m = (m.reverse.dropWhile blk).reverse ++ (m.reverse.takeWhile blk).reverse := by
    rw [← List.reverse_append, ← e2, List.reverse_reverse]
  have e4 : trimS l = (m.reverse.dropWhile blk).reverse := rfl
  refine ⟨l.takeWhile blk, (m.reverse.takeWhile blk).reverse, ?_, takeWhile_all _ _, by rw [List.all_reverse]; exact takeWhile_all _ _, ?_, ?_⟩
  · rw [e4, List.append_assoc, ← e3]; exact e1
  · rw [e4]
    intro x hx
    have hm : m.head? = some x := by
      rw [e3]
      match h : (m.reverse.dropWhile blk).reverse, hx with
      | y :: r, hx => simpa using hx
    exact dropWhile_first blk l x hm
  · rw [e4]
    intro x hx
    rw [List.getLast?_reverse] at hx
    exact dropWhile_first blk _ x hx

def lowB (b : UInt8) : UInt8 := if 65 ≤ b.toNat ∧ b.toNat ≤ 90 then b + 32 else b
theorem lowB_toNat (b : UInt8) : (lowB b).toNat = if 65 ≤ b.toNat ∧ b.toNat ≤ 90 then b.toNat + 32 else b.toNat := by
  unfold lowB
  split
  · rw [UInt8.toNat_add]; have : (32 : UInt8).toNat = 32 := rfl; omega
  · rfl
def foldS (l : List UInt8) : List UInt8 := l.map lowB

end Go.Proofs.YtkmgflnmffdhjaaGreatDoor

/- Contracts of Trim and of the document's Trim. -/
namespace Go.Proofs.YtkmgflnmffdhjaaGreatDoor
open Go Go.RowKit

theorem blank_yes (c : Int) (w : World) (h : c = 32 ∨ c = 9) :
    Calls Tryz.prog 81 #[.int .u8 c] w fun e w' => e = .returned (.bool true) ∧ w = w' :=
  (blank_any c w).mono fun _ _ ⟨he, hw⟩ => ⟨by rw [he, decide_eq_true h], hw⟩
theorem blank_no (c : Int) (w : World) (h : ¬ (c = 32 ∨ c = 9)) :
    Calls Tryz.prog 81 #[.int .u8 c] w fun e w' => e = .returned (.bool false) ∧ w = w' :=
  (blank_any c w).mono fun _ _ ⟨he, hw⟩ => ⟨by rw [he, decide_eq_false h], hw⟩

theorem blk_true {b : UInt8} (h : (b.toNat : Int) = 32 ∨ (b.toNat : Int) = 9) : blk b = true := decide_eq_true h
theorem blk_false {b : UInt8} (h : ¬ ((b.toNat : Int) = 32 ∨ (b.toNat : Int) = 9)) : blk b = false := decide_eq_false h

/-- What the first loop of Trim has cut off is blank; what the second one has cut off, too. -/
theorem trim_step1 {s t : ByteArray} {a b : List UInt8} (h : s.data.toList = a ++ t.data.toList ++ b) (ha : a.all blk = true) (h0 : 0 < t.size) (hb : blk t[0] = true) :
    ∃ a', s.data.toList = a' ++ (t.extract 1 t.size).data.toList ++ b ∧ a'.all blk = true := by
  refine ⟨a ++ [t[0]], ?_, by rw [List.all_append, ha]; simp [hb]⟩
  rw [h, extract_toList]
  have e : t.data.toList = t[0] :: t.data.toList.drop 1 := by
    have h1 := bytes_get t 0 h0
    match hh : t.data.toList, h1 with
    | x :: r, h1 => simp at h1; simp [h1]
  have e2 : (t.data.toList.drop 1).take (t.size - 1) = t.data.toList.drop 1 := List.take_of_length_le (by simp)
  rw [e2]
  conv => lhs; rw [e]
  simp
theorem trim_step2 {s t : ByteArray} {a b : List UInt8} (h : s.data.toList = a ++ t.data.toList ++ b) (hb : b.all blk = true) (h0 : 0 < t.size) (hl : blk (t[t.size - 1]'(by omega)) = true) :
    ∃ b', s.data.toList = a ++ (t.extract 0 (t.size - 1)).data.toList ++ b' ∧ b'.all blk = true := by
  refine ⟨t[t.size - 1]'(by omega) :: b, ?_, by rw [List.all_cons, hl, hb]; rfl⟩
  rw [h, extract_toList]
  have e : t.data.toList = (t.data.toList.drop 0).take (t.size - 1 - 0) ++ [t[t.size - 1]'(by omega)] := by
    have h1 := take_snoc t (t.size - 1) (by omega)
    rw [Nat.sub_add_cancel h0, List.take_of_length_le (by simp)] at h1
    simpa using h1
  conv => lhs; rw [e]
  simp
theorem trim_end {s t : ByteArray} {a b : List UInt8} (h : s.data.toList = a ++ t.data.toList ++ b) (ha : a.all blk = true) (hb : b.all blk = true)
    (h1 : ∀ h0 : 0 < t.size, blk t[0] = false) (h2 : ∀ h0 : 0 < t.size, blk (t[t.size - 1]'(by omega)) = false) : t = ⟨(trimS s.data.toList).toArray⟩ := by
  apply bytes_eq
  rw [h, trim_of a t.data.toList b ha hb]
  · intro x hx
    have h0 : 0 < t.size := by
      rw [bytes_len]
      match t.data.toList, hx with
      | y :: r, _ => simp
    rw [head_at t h0] at hx
    rw [← Option.some.inj hx]
    exact h1 h0
  · intro x hx
    have h0 : 0 < t.size := by
      rw [bytes_len]
      match t.data.toList, hx with
      | y :: r, _ => simp
    rw [List.getLast?_eq_getElem?, ← bytes_len, bytes_get t (t.size - 1) (by omega)] at hx
    rw [← Option.some.inj hx]
    exact h2 h0

theorem extract_first (u : ByteArray) (n : Nat) (h : 0 < (u.extract 0 n).size) (h0 : 0 < u.size) : (u.extract 0 n)[0] = u[0] := by
  have h1 := bytes_get _ 0 h
  have h2 := bytes_get u 0 h0
  rw [extract_toList, List.getElem?_take] at h1
  split at h1
  · rw [List.drop_zero, h2] at h1
    exact (Option.some.inj h1).symm
  · cases h1

theorem trim_any (s : ByteArray) (w : World) (hl : s.size ≤ 9223372036854775807) :
    Calls Tryz.prog 109 #[.string s] w fun e w' => e = .returned (.string ⟨(trimS s.data.toList).toArray⟩) ∧ w = w' := by
  go_enter Tryz.func109, Tryz.ntmps109
  go_wp2
  go_loopg [0] s.size (fun g v wr => ∃ t : ByteArray, t.size ≤ s.size ∧ g = t.size ∧ v = .string t ∧ w = wr ∧ Hid (∃ a, s.data.toList = a ++ t.data.toList ++ [] ∧ a.all blk = true))
  case atStart => exact ⟨s, by omega, rfl, rfl, rfl, [], by simp, rfl⟩
  case round =>
    obtain ⟨t, ht, rfl, rfl, rfl, HA⟩ := hrel
    have HX := Lib.hid (extract_size' t 1 t.size (by omega))
    by_cases hc : ∃ h0 : 0 < t.size, (t[0].toNat : Int) = 32 ∨ (t[0].toNat : Int) = 9
    · obtain ⟨h0, hb⟩ := hc
      have HB := Lib.hid hb
      clear hb
      go_wp2_with (go_at_call 81; refine (blank_yes _ _ HB.out).mono ?_; rintro e w' ⟨rfl, rfl⟩)
      go_roundg ((t.extract 1 t.size).size)
      case measure => rw [HX.out]; omega
      case rel =>
        obtain ⟨a, h1, h2⟩ := HA.out
        exact ⟨_, by rw [HX.out]; omega, rfl, rfl, rfl, trim_step1 h1 h2 h0 (blk_true HB.out)⟩
    have hc' : ¬ 0 < t.size ∨ (∃ h0 : 0 < t.size, ¬ ((t[0].toNat : Int) = 32 ∨ (t[0].toNat : Int) = 9)) := by
      by_cases h0 : 0 < t.size
      · exact .inr ⟨h0, fun h => hc ⟨h0, h⟩⟩
      · exact .inl h0
    clear hc
    rcases hc' with h0 | ⟨h0, hb⟩
    case' inr =>
      have HB := Lib.hid hb
      have HF : Hid (∀ h0 : 0 < t.size, blk t[0] = false) := fun _ => blk_false hb
      clear hb
      go_wp2_with (go_at_call 81; refine (blank_no _ _ HB.out).mono ?_; rintro e w' ⟨rfl, rfl⟩)
      clear HB HX
    case' inl =>
      have HF : Hid (∀ h0 : 0 < t.size, blk t[0] = false) := fun h => (h0 h).elim
      go_wp2_with fail
      clear HX
    all_goals
      skip
      go_loopg [0] s.size (fun g v wr => ∃ u : ByteArray, u.size ≤ s.size ∧ u.size ≤ g ∧ v = .string u ∧ w = wr ∧ Hid (∃ a b, s.data.toList = a ++ u.data.toList ++ b ∧ a.all blk = true ∧ b.all blk = true ∧ (∀ h0 : 0 < u.size, blk u[0] = false)))
      case atStart =>
        refine ⟨t, by omega, by omega, rfl, rfl, ?_⟩
        obtain ⟨a, h1, h2⟩ := HA.out
        exact ⟨a, [], h1, h2, rfl, HF.out⟩
      case round =>
        clear HA HF ht
        obtain ⟨u, hu, hg, rfl, rfl, HA⟩ := hrel
        have HX := Lib.hid (extract_size' u 0 (u.size - 1) (by omega))
        by_cases h0 : 0 < u.size
        · by_cases hb : ((u[u.size - 1]'(by omega)).toNat : Int) = 32 ∨ ((u[u.size - 1]'(by omega)).toNat : Int) = 9
          · have HB := Lib.hid hb
            clear hb
            go_wp2_with (go_at_call 81; refine (blank_yes _ _ HB.out).mono ?_; rintro e w' ⟨rfl, rfl⟩)
            go_roundg (gk - 1)
            case measure => omega
            case rel =>
              obtain ⟨a, b, h1, h2, h3, h4⟩ := HA.out
              obtain ⟨b', h5, h6⟩ := trim_step2 h1 h3 h0 (blk_true HB.out)
              refine ⟨_, by rw [HX.out]; omega, by rw [HX.out]; omega, rfl, rfl, a, b', h5, h2, h6, ?_⟩
              intro hx
              rw [extract_first u (u.size - 1) hx h0]
              exact h4 h0
          · have HB := Lib.hid hb
            clear hb
            go_wp2_with (go_at_call 81; refine (blank_no _ _ HB.out).mono ?_; rintro e w' ⟨rfl, rfl⟩)
            go_ret
            obtain ⟨a, b, h1, h2, h3, h4⟩ := HA.out
            exact ⟨ret_str (trim_end h1 h2 h3 h4 (fun _ => blk_false HB.out)), rfl⟩
        · go_wp2_with fail
          go_ret
          obtain ⟨a, b, h1, h2, h3, h4⟩ := HA.out
          exact ⟨ret_str (trim_end h1 h2 h3 h4 (fun h => (h0 h).elim)), rfl⟩

end Go.Proofs.YtkmgflnmffdhjaaGreatDoor

/- Contracts of Same, Fold and the document's Fold. -/
namespace Go.Proofs.YtkmgflnmffdhjaaGreatDoor
open Go Go.RowKit

theorem lowI_nat (b : UInt8) : lowI (b.toNat : Int) = ((lowB b).toNat : Int) := by
  unfold lowI
  rw [lowB_toNat]
  by_cases h : 65 ≤ b.toNat ∧ b.toNat ≤ 90
  · rw [if_pos (by omega), if_pos h]; omega
  · rw [if_neg (by omega), if_neg h]
theorem lowerB_any (b : UInt8) (w : World) :
    Calls Tryz.prog 98 #[.int .u8 b.toNat] w fun e w' => e = .returned (.int .u8 (lowB b).toNat) ∧ w = w' := by
  have h := lower_any b.toNat w (by omega) (by have := b.toNat_lt; omega)
  rw [lowI_nat] at h
  exact h
theorem fold_eq_of {a b : ByteArray} (hn : a.size = b.size) (h : ∀ j, (h1 : j < a.size) → (h2 : j < b.size) → lowB a[j] = lowB b[j]) : foldS a.data.toList = foldS b.data.toList := by
  unfold foldS
  apply List.ext_getElem
  · simpa using hn
  · intro i h1 h2
    simp only [List.getElem_map]
    exact h i (by simpa using h1) (by simpa using h2)
theorem fold_ne_of {a b : ByteArray} {j : Nat} (h1 : j < a.size) (h2 : j < b.size) (h : ¬ lowB a[j] = lowB b[j]) : ¬ foldS a.data.toList = foldS b.data.toList := by
  intro e
  apply h
  have := congrArg (fun l => l[j]?) e
  simp only [foldS, List.getElem?_map, bytes_get a j h1, bytes_get b j h2] at this
  exact Option.some.inj this
theorem fold_ne_len {a b : ByteArray} (h : ¬ a.size = b.size) : ¬ foldS a.data.toList = foldS b.data.toList := by
  intro e
  apply h
  have := congrArg List.length e
  simpa [foldS] using this

theorem same_any (a b : ByteArray) (w : World) (hl : a.size ≤ 9223372036854775807) :
    Calls Tryz.prog 108 #[.string a, .string b] w fun e w' => e = .returned (.bool (decide (foldS a.data.toList = foldS b.data.toList))) ∧ ∃ n, w' = w.drewN n := by
  by_cases hn : a.size = b.size
  · have HN := Lib.hid hn
    have hn1 : b.size ≤ a.size := by omega
    have hn2 : a.size ≤ b.size := by omega
    have ht : ((a.size : Int) != (b.size : Int)) = false := by simp; omega
    clear hn
    go_enter Tryz.func108, Tryz.ntmps108
    go_wp2
    clear ht
    go_loopg [5] a.size (fun g v wr => ∃ k : Nat, k ≤ a.size ∧ g = a.size - k ∧ v = .int .i64 k ∧ Hid (∃ n, wr = w.drewN n) ∧ Hid (∀ j, (h1 : j < a.size) → (h2 : j < b.size) → j < k → lowB a[j] = lowB b[j]))
    case atStart => exact ⟨0, by omega, rfl, rfl, ⟨0, rfl⟩, fun j _ _ h => by omega⟩
    case round =>
      obtain ⟨k, hk, rfl, rfl, HW, HA⟩ := hrel
      by_cases hlt : k < a.size
      · have hlt2 : k < b.size := by omega
        by_cases he : lowB a[k] = lowB b[k]
        case' pos => have ht : (((lowB a[k]).toNat : Int) != ((lowB b[k]).toNat : Int)) = false := by rw [he]; simp
        case' neg => have ht : (((lowB a[k]).toNat : Int) != ((lowB b[k]).toNat : Int)) = true := by { have : ¬ (lowB a[k]).toNat = (lowB b[k]).toNat := fun h => he (UInt8.toNat_inj.1 h); simp; omega }
        all_goals
          have HE := Lib.hid he
          clear he
          go_wp2_with fail
          go_quiet ((go_at_call 98; exact quiet_same' (lowerB_any _ _)))
          go_wp2
        · go_ret
          refine ⟨ret_bool (decide_eq_false (fold_ne_of hlt hlt2 HE.out)).symm, ?_⟩
          obtain ⟨n, rfl⟩ := HW.out
          exact ⟨n + nq, World.drewN_drewN _ _ _⟩
        · go_roundg (a.size - (k + 1))
          case measure => omega
          case rel =>
            refine ⟨k + 1, by omega, rfl, by go_num, ?_, ?_⟩
            · obtain ⟨n, rfl⟩ := HW.out
              exact ⟨n + nq, World.drewN_drewN _ _ _⟩
            · intro j h1 h2 h3
              by_cases e : j = k
              · subst e; exact HE.out
              · exact HA.out j h1 h2 (by omega)
      · go_wp2
        go_ret
        exact ⟨ret_bool (decide_eq_true (fold_eq_of HN.out fun j h1 h2 => HA.out j h1 h2 (by omega))).symm, HW.out⟩
  · have ht : ((a.size : Int) != (b.size : Int)) = true := by simp; omega
    have HN := Lib.hid hn
    clear hn
    go_enter Tryz.func108, Tryz.ntmps108
    go_wp2
    go_ret
    exact ⟨ret_bool (decide_eq_false (fold_ne_len HN.out)).symm, 0, rfl⟩
theorem foldS_set (l : List UInt8) (k : Nat) (h : k < l.length) : (foldS (l.take k) ++ l.drop k).set k (lowB l[k]) = foldS (l.take (k + 1)) ++ l.drop (k + 1) := by
  unfold foldS
  rw [List.set_append_right _ _ (by simp; omega), List.take_succ_eq_append_getElem h, List.drop_eq_getElem_cons h]
  have e : k - (l.take k |>.map lowB).length = 0 := by simp; omega
  rw [e, List.set_cons_zero, List.map_append, List.append_assoc]
  rfl

theorem fold_any (s : ByteArray) (w : World) (hl : s.size ≤ 9223372036854775807) :
    Calls Tryz.prog 64 #[.string s] w fun e w' => e = .returned (.string ⟨(foldS s.data.toList).toArray⟩) ∧ Below w.heap.size w w' := by
  have hconv := fun w => run_bytes_of_string (P := Tryz.prog) w 9 22 5 s Tryz.underlying9 Tryz.underlying22 Tryz.underlying5
  have HR := Lib.hid (fun cap o => rowAt_bytes w.drew s cap 5 o)
  go_enter Tryz.func64, Tryz.ntmps64
  go_wp2
  go_loopg [10] s.size (fun g v wr => ∃ k : Nat, k ≤ s.size ∧ g = s.size - k ∧ v = .int .i64 k ∧ Hid (rowAt wr w.heap.size 5 ((foldS (s.data.toList.take k) ++ s.data.toList.drop k).map byteV)) ∧ Hid (Below w.heap.size w wr))
  case atStart => exact ⟨0, by omega, rfl, rfl, HR.out _ _, ((Below.refl _ _).alloc (Nat.le_refl _) _).drew⟩
  case round =>
    obtain ⟨k, hk, rfl, rfl, HA, HB⟩ := hrel
    clear HR
    by_cases hlt : k < s.size
    · have hk' : k < ((foldS (s.data.toList.take k) ++ s.data.toList.drop k).map byteV).length := by simp [foldS]; omega
      have hcell : wr.cell? ⟨w.heap.size, k, none⟩ = some (.int .u8 (s[k].toNat : Int)) := by
        rw [HA.out.cell k hk']
        simp [foldS, drop_cons s k hlt, byteV, Nat.min_eq_left hk]
      have hfr : wr.frozen? ⟨w.heap.size, k, none⟩ = false := HA.out.frozen k hk'
      clear hk'
      go_wp2_with (go_at_call 98; refine (lowerB_any _ _).mono ?_; rintro e w' ⟨rfl, rfl⟩)
      go_roundg (s.size - (k + 1))
      case measure => omega
      case rel =>
        refine ⟨k + 1, by omega, rfl, by go_num, ?_, HB.out.setCell (Nat.le_refl _) _⟩
        have := HA.out.set k (byteV (lowB s[k]))
        rw [← List.map_set] at this
        have e := foldS_set s.data.toList k (by simpa using hlt)
        rw [← e]
        exact this
    · have hA := HA.out
      rw [take_all s k hlt, List.drop_eq_nil_of_le (by simp; omega), List.append_nil] at hA
      have hst := fun cap => run_string_of_row (P := Tryz.prog) (cap := cap) (n := s.size) Tryz.underlying22 Tryz.underlying5 Tryz.underlying9 hA (by simp [foldS])
      have HB' := HB
      clear hA
      go_wp2
      go_ret
      exact ⟨rfl, HB'.out⟩
theorem Tryz.infoU8 : (Tryz.prog.info? 5).map (fun i => (i.zero, i.size, i.bytes)) = some (some (.int .u8 0), 1, 1) := by kernel_rfl

end Go.Proofs.YtkmgflnmffdhjaaGreatDoor

/- Contracts of Split and the document's Split. -/
namespace Go.Proofs.YtkmgflnmffdhjaaGreatDoor
open Go Go.RowKit

theorem Tryz.infoStr : (Tryz.prog.info? 9).map (fun i => (i.zero, i.size, i.bytes)) = some (some (.string ⟨#[]⟩), 1, 16) := by kernel_rfl

end Go.Proofs.YtkmgflnmffdhjaaGreatDoor

/- Contracts of Digits and the document's Digits. -/
namespace Go.Proofs.YtkmgflnmffdhjaaGreatDoor
open Go Go.RowKit

theorem below_grow (w : World) (k : Nat) (os : Array Obj) : Below w.heap.size w (Go.Sort.grow (w.drewN k) os) := by
  refine ⟨rfl, rfl, rfl, ?_, ?_⟩
  · show w.heap.size ≤ (w.heap ++ os).size
    simp
  · intro i hi
    show (w.heap ++ os)[i]? = w.heap[i]?
    rw [Array.getElem?_append_left hi]

def tab (w : World) : Prop := Lib.TabIs Tryz.prog w "internal/strconv.uint64pow10" .u64 Lib.pow10Tab
theorem tab.below {w w' : World} (h : tab w) (hb : Below w.heap.size w w') : tab w' := (Lib.tabBelow_of_tabIs h) w' hb

theorem digits_any (n : Int) (h0 : -9223372036854775808 ≤ n) (h1 : n ≤ 9223372036854775807) (w : World) (ht : tab w) :
    Calls Tryz.prog 59 #[.int .i64 n] w fun e w' => e = .returned (.string ⟨(Lib.itoa n).toArray⟩) ∧ Below w.heap.size w w' := by
  have HC := Lib.hid (fun w ht => Tryz.strconv_Itoa n h0 h1 w ht)
  have HT := Lib.hid ht
  clear ht h0 h1
  go_enter Tryz.func59, Tryz.ntmps59
  go_wp2_with (go_at_call 91; refine (HC.out _ HT.out).mono ?_; rintro e w' ⟨rfl, k, os, rfl⟩)
  go_ret
  exact ⟨rfl, below_grow _ _ _⟩

end Go.Proofs.YtkmgflnmffdhjaaGreatDoor

/- Contracts of Token and Atom, and of the document's; the example that every statement asks first. -/
namespace Go.Proofs.YtkmgflnmffdhjaaGreatDoor
open Go Go.RowKit

def mimeB : ByteArray := ⟨#[40, 41, 60, 62, 64, 44, 59, 58, 92, 34, 47, 91, 93, 63, 61]⟩
def imapB : ByteArray := ⟨#[40, 41, 123, 37, 42, 34, 92, 93]⟩
def tokenI (c : Int) : Bool := decide (33 ≤ c ∧ c ≤ 126) && !(hasI mimeB c)
def atomI (c : Int) : Bool := decide (33 ≤ c ∧ c ≤ 126) && !(hasI imapB c)
theorem mime_low : ∀ k, (h : k < mimeB.size) → mimeB[k].toNat < 128 := by decide
theorem seen_yes (c : Int) (w : World) (h0 : 0 ≤ c) (h1 : c ≤ 255) (h : 33 ≤ c ∧ c ≤ 126) :
    Calls Tryz.prog 151 #[.int .u8 c] w fun e w' => e = .returned (.bool true) ∧ w = w' :=
  (seen_any c w h0 h1).mono fun _ _ ⟨he, hw⟩ => ⟨by rw [he, decide_eq_true h], hw⟩
theorem seen_no (c : Int) (w : World) (h0 : 0 ≤ c) (h1 : c ≤ 255) (h : ¬ (33 ≤ c ∧ c ≤ 126)) :
    Calls Tryz.prog 151 #[.int .u8 c] w fun e w' => e = .returned (.bool false) ∧ w = w' :=
  (seen_any c w h0 h1).mono fun _ _ ⟨he, hw⟩ => ⟨by rw [he, decide_eq_false h], hw⟩

theorem token_any (c : Int) (w : World) (h0 : 0 ≤ c) (h1 : c ≤ 255) :
    Calls Tryz.prog 129 #[.int .u8 c] w fun e w' => e = .returned (.bool (tokenI c)) ∧ Below w.heap.size w w' := by
  have HM := Lib.hid (fun w => among_any c mimeB w h0 h1 mime_low (by decide))
  by_cases h : 33 ≤ c ∧ c ≤ 126
  · go_enter Tryz.func129, Tryz.ntmps129
    go_wp2_with (first | (go_at_call 151; refine (seen_yes _ _ h0 h1 h).mono ?_; rintro e w' ⟨rfl, rfl⟩) | (go_at_call 152; refine (HM.out _).mono ?_; rintro e w' ⟨rfl, k, rfl⟩))
    go_ret
    exact ⟨ret_bool (by unfold tokenI; rw [decide_eq_true h]; rfl), (Below.refl _ _).alloc (Nat.le_refl _) _⟩
  · go_enter Tryz.func129, Tryz.ntmps129
    go_wp2_with (go_at_call 151; refine (seen_no _ _ h0 h1 h).mono ?_; rintro e w' ⟨rfl, rfl⟩)
    go_ret
    exact ⟨ret_bool (by unfold tokenI; rw [decide_eq_false h]; rfl), Below.refl _ _⟩
end Go.Proofs.YtkmgflnmffdhjaaGreatDoor
