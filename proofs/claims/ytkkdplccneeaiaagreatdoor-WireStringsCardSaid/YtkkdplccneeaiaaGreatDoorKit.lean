/- Small laws of my own, of no program: rows of cells that the call has made. -/
import Derived.WalkKit
import Derived.WalkSpells
import Derived.BigQuiet
import Derived.Deep.QuietTactic
import Derived.Deep.LoopGhost
import Derived.Laws.IdiomStrings
import Derived.Laws.BytesArg
import Derived.Lib.Hide
namespace Go.Proofs.YtkkdplccneeaiaaGreatDoor
open Go Go.RowKit

def byteV (b : UInt8) : Value := .int .u8 (b.toNat : Int)

/-- Block B is a row of cells of type e; its first cells are xs; none of these is frozen. -/
def rowAt (w : World) (B : Nat) (e : TypeId) (xs : List Value) : Prop :=
  ∃ C lo hi, w.heap[B]? = some (.cells C e (lo, hi)) ∧ (∀ j, j < xs.length → ¬ (lo ≤ j ∧ j < hi)) ∧ C.toList.take xs.length = xs

theorem rowAt.lt {w : World} {B : Nat} {e : TypeId} {xs : List Value} (h : rowAt w B e xs) : B < w.heap.size := by
  obtain ⟨C, lo, hi, h1, _⟩ := h
  exact (Array.getElem?_eq_some_iff.1 h1).1
theorem rowAt.len {C : Array Value} {xs : List Value} (h : C.toList.take xs.length = xs) : xs.length ≤ C.size := by
  have := congrArg List.length h
  simp at this
  omega
theorem rowAt.cell {w : World} {B : Nat} {e : TypeId} {xs : List Value} (h : rowAt w B e xs) (k : Nat) (hk : k < xs.length) : w.cell? ⟨B, k, none⟩ = some xs[k] := by
  obtain ⟨C, lo, hi, h1, _, h3⟩ := h
  have hl := rowAt.len h3
  have h4 : C.toList[k]? = some xs[k] := by
    have := congrArg (fun l => l[k]?) h3
    simp only [List.getElem?_take, hk, if_true, List.getElem?_eq_getElem hk] at this
    exact this
  simp [World.cell?, h1]
  simpa using h4
theorem rowAt.frozen {w : World} {B : Nat} {e : TypeId} {xs : List Value} (h : rowAt w B e xs) (k : Nat) (hk : k < xs.length) : w.frozen? ⟨B, k, none⟩ = false := by
  obtain ⟨C, lo, hi, h1, h2, _⟩ := h
  have := h2 k hk
  simp [World.frozen?, h1]
  omega
theorem rowAt.set {w : World} {B : Nat} {e : TypeId} {xs : List Value} (h : rowAt w B e xs) (k : Nat) (u : Value) : rowAt (w.setCell ⟨B, k, none⟩ u) B e (xs.set k u) := by
  obtain ⟨C, lo, hi, h1, h2, h3⟩ := h
  refine ⟨C.setIfInBounds k u, lo, hi, ?_, by simpa using h2, ?_⟩
  · simp [World.setCell, Array.getElem?_modify, h1]
  · rw [Array.toList_setIfInBounds, List.length_set, List.take_set, h3]
theorem rowAt.below {w w' : World} {B : Nat} {e : TypeId} {xs : List Value} (h : rowAt w B e xs) (hb : w'.heap[B]? = w.heap[B]?) : rowAt w' B e xs := by
  obtain ⟨C, lo, hi, h1, h2, h3⟩ := h
  exact ⟨C, lo, hi, by rw [hb]; exact h1, h2, h3⟩
theorem rowAt.take {w : World} {B : Nat} {e : TypeId} {xs : List Value} (h : rowAt w B e xs) (k : Nat) : rowAt w B e (xs.take k) := by
  obtain ⟨C, lo, hi, h1, h2, h3⟩ := h
  refine ⟨C, lo, hi, h1, fun j hj => h2 j (by simp at hj; omega), ?_⟩
  rw [List.length_take]
  conv => rhs; rw [← h3]
  rw [List.take_take]

/-- '[]byte(s)': what it lays. -/
theorem rowAt_bytes (w : World) (s : ByteArray) (cap : Nat) (e : TypeId) (o : Nat) :
    rowAt (w.alloc (.cells (bytesRow s cap) e ((bytesRow s cap).size, o))) w.heap.size e (s.data.toList.map byteV) := by
  refine ⟨bytesRow s cap, (bytesRow s cap).size, o, heap_alloc_new w _, ?_, ?_⟩
  · intro j hj h
    simp [bytesRow] at hj h
    omega
  · simp [bytesRow, byteV]

/-- '[]byte(s)' under one name: the row that it lays, in a world that is a variable. -/
theorem conv_bytes {P : Program} (w : World) (src dst e : TypeId) (s : ByteArray) (hs : P.underlying src = some .string) (hd : P.underlying dst = some (.slice e)) (he : P.underlying e = some (.int .u8)) :
    ∃ W1 cap, (convert src dst (.string s)).run P w = .ok (.slice (some ⟨w.heap.size, 0, none⟩) s.size cap) W1 ∧ rowAt W1 w.heap.size e (s.data.toList.map byteV) ∧ Below w.heap.size w W1 ∧ s.size ≤ cap :=
  ⟨_, _, run_bytes_of_string (P := P) w src dst e s hs hd he, rowAt_bytes w.drew s _ e _, (Below.refl _ _).drew.alloc (Nat.le_refl _) _, grownCap_ge _ _ _ _⟩

theorem rowAt_owned {w : World} {base : Nat} {e : TypeId} {g n cap : Nat} {xs : List Value} (h : w.ownsRow base e 1 (.slice (some ⟨g, 0, none⟩) n cap) n xs) : rowAt w g e xs := by
  obtain ⟨h1, h2⟩ := h
  rcases h2 with ⟨h2, _⟩ | ⟨g', cap', cur, hv, _, hh, _, _, _, ht⟩
  · cases h2
  · cases hv
    refine ⟨cur, 0, 0, hh, fun j _ h => by omega, ?_⟩
    rw [h1]
    exact ht

/-- 'string(b)' of a row of bytes. -/
theorem run_string_of_row {P : Program} {w : World} {src dst e : TypeId} {B n cap : Nat} {l : List UInt8} (hs : P.underlying src = some (.slice e)) (he : P.underlying e = some (.int .u8)) (hd : P.underlying dst = some .string)
    (h : rowAt w B e (l.map byteV)) (hn : n = l.length) :
    (convert src dst (.slice (some ⟨B, 0, none⟩) n cap)).run P w = .ok (.string ⟨l.toArray⟩) w := by
  subst hn
  refine run_convert_bytes_back w src dst e ⟨B, 0, none⟩ cap l hs he hd fun j hj => ?_
  rw [Addr.add_lit, Nat.zero_add, h.cell j (by simpa using hj)]
  simp [byteV]

theorem run_string_of_owned {P : Program} {w : World} {src dst e : TypeId} {base n : Nat} {v : Value} {l : List UInt8} (hs : P.underlying src = some (.slice e)) (he : P.underlying e = some (.int .u8)) (hd : P.underlying dst = some .string)
    (h : w.ownsRow base e 1 v n (l.map byteV)) : (convert src dst v).run P w = .ok (.string ⟨l.toArray⟩) w := by
  rcases h.2 with ⟨rfl, hn⟩ | ⟨g, cap, cur, rfl, _⟩
  · have h1 := h.1
    have : l = [] := List.eq_nil_of_length_eq_zero (by simpa [hn] using h1)
    subst this
    exact run_convert_bytes_nil w src e hs he 0 0 dst hd
  · have h1 := h.1
    exact run_string_of_row hs he hd (rowAt_owned h) (by simpa using h1.symm)

theorem ownsRow_below {w w' : World} {base : Nat} {e : TypeId} {size : Nat} {v : Value} {n : Nat} {xs : List Value} (h : w.ownsRow base e size v n xs) (hb : Below w.heap.size w w') : w'.ownsRow base e size v n xs := by
  refine ⟨h.1, ?_⟩
  rcases h.2 with h2 | ⟨g, cap, cur, hv, hg, hh, r⟩
  · exact .inl h2
  · exact .inr ⟨g, cap, cur, hv, hg, by rw [hb.block g (Array.getElem?_eq_some_iff.1 hh).1]; exact hh, r⟩
theorem ownsRow_slice {w : World} {base : Nat} {e : TypeId} {size : Nat} {v : Value} {n : Nat} {xs : List Value} (h : w.ownsRow base e size v n xs) (hn : 0 < n) : ∃ g cap, v = .slice (some ⟨g, 0, none⟩) n cap ∧ n ≤ cap ∧ cap ≤ maxLen ∧ base ≤ g ∧ g < w.heap.size := by
  rcases h.2 with ⟨_, h2⟩ | ⟨g, cap, cur, hv, hg, hh, hc, hm, _⟩
  · omega
  · exact ⟨g, cap, hv, hc, hm, hg, (Array.getElem?_eq_some_iff.1 hh).1⟩

theorem quiet_same' {P : Program} {f : FuncId} {args : Array Value} {w : World} {n : Nat} {v : Value}
    (h : Calls P f args (w.drewN n) fun e w' => e = .returned v ∧ w.drewN n = w') : Calls P f args (w.drewN n) fun e w'' => e = .returned v ∧ ∃ m, w'' = w.drewN m :=
  h.mono fun _ _ ⟨he, hm⟩ => ⟨he, n, hm.symm⟩

theorem ret_int {k : IntKind} {a b : Int} (h : a = b) : Ending.returned (.int k a) = .returned (.int k b) := by rw [h]
theorem ret_bool {a b : Bool} (h : a = b) : Ending.returned (.bool a) = .returned (.bool b) := by rw [h]
theorem ret_str {a b : ByteArray} (h : a = b) : Ending.returned (.string a) = .returned (.string b) := by rw [h]
theorem beq_no {a b : Int} (h : ¬ a = b) : (a == b) = false := beq_eq_false_iff_ne.2 h
theorem beq_yes {a b : Int} (h : a = b) : (a == b) = true := beq_iff_eq.2 h
theorem bne_no {a b : Int} (h : a = b) : (a != b) = false := by subst h; simp
theorem bne_yes {a b : Int} (h : ¬ a = b) : (a != b) = true := bne_iff_ne.2 h
theorem byte_lt (b : UInt8) : (b.toNat : Int) < 256 := by have := b.toNat_lt; omega
theorem bytes_eq {a b : ByteArray} (h : a.data.toList = b.data.toList) : a = b := by
  apply ByteArray.ext
  exact Array.toList_inj.1 h
theorem extract_toList (s : ByteArray) (a b : Nat) : (s.extract a b).data.toList = (s.data.toList.drop a).take (b - a) := by
  simp [ByteArray.data_extract, List.extract_eq_take_drop]
theorem bytes_len (s : ByteArray) : s.size = s.data.toList.length := by simp
theorem bytes_get (s : ByteArray) (k : Nat) (h : k < s.size) : s.data.toList[k]? = some s[k] := by
  rw [List.getElem?_eq_getElem (by simpa using h)]; rfl
theorem take_snoc (s : ByteArray) (k : Nat) (h : k < s.size) : s.data.toList.take (k + 1) = s.data.toList.take k ++ [s[k]] := by
  rw [List.take_succ_eq_append_getElem (by simpa using h)]; rfl
theorem take_all (s : ByteArray) (k : Nat) (h : ¬ k < s.size) : s.data.toList.take k = s.data.toList := List.take_of_length_le (by simp; omega)
theorem len_toList (s : ByteArray) : s.data.toList.length = s.size := by simp
theorem head_at (s : ByteArray) (h : 0 < s.size) : s.data.toList.head? = some s[0] := by
  rw [List.head?_eq_getElem?, List.getElem?_eq_getElem (by simpa using h)]; rfl
theorem drop_cons (s : ByteArray) (k : Nat) (h : k < s.size) : s.data.toList.drop k = s[k] :: s.data.toList.drop (k + 1) := by
  rw [List.drop_eq_getElem_cons (by simpa using h)]; rfl
theorem extract_len (s : ByteArray) (a b : Nat) : (s.extract a b).size = min (b - a) (s.size - a) := by
  rw [bytes_len, extract_toList, List.length_take, List.length_drop, ← bytes_len]
theorem extract_size' (s : ByteArray) (a b : Nat) (h : b ≤ s.size) : (s.extract a b).size = b - a := by
  rw [extract_len]
  omega
theorem extract_at (s : ByteArray) (a b k : Nat) (h : k < (s.extract a b).size) (h' : a + k < s.size) : (s.extract a b)[k] = s[a + k] := by
  have h1 := bytes_get _ k h
  have h2 := bytes_get s (a + k) h'
  rw [extract_toList, List.getElem?_take] at h1
  split at h1
  · rw [List.getElem?_drop, h2] at h1
    exact (Option.some.inj h1).symm
  · cases h1
theorem toList_nil_iff (s : ByteArray) : s.toList = [] ↔ s.size = 0 := by
  rw [ByteArray.toList_eq]
  constructor
  · intro h
    have := congrArg List.length h
    simpa using this
  · intro h
    exact List.eq_nil_of_length_eq_zero (by simpa using h)
theorem toList_one_iff (s : ByteArray) (c : UInt8) : s.toList = [c] ↔ s.data.toList.head? = some c ∧ s.size = 1 := by
  rw [ByteArray.toList_eq]
  have h1 : s.data.toList.length = s.size := by simp
  rw [← h1]
  match s.data.toList with
  | [] => simp
  | [a] => simp
  | a :: b :: l => simp
end Go.Proofs.YtkkdplccneeaiaaGreatDoor
