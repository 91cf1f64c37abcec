/- Small laws of my own, of no function: a []string that came in. -/
import Derived.Test.YtkkdplccneeaiaaGreatDoorKit2
import Derived.Deep.Strs
namespace Go.Proofs.YtkkdplccneeaiaaGreatDoor
open Go Go.RowKit Go.ChangeShapes Go.WideShapes Go.ChangeAt Go.Deep

/-- What a slice of strings that came in reads as. -/
def strsArg (W : World) (v : Value) (ls : List ByteArray) : Prop :=
  ∃ ao cap, v = .slice ao ls.length cap ∧ ls.length ≤ cap ∧ cap ≤ maxLen ∧ (∀ s ∈ ls, s.size ≤ maxLen) ∧
    (ls = [] ∨ ∃ b off, ao = some ⟨b, off, none⟩ ∧ b < W.heap.size ∧ ∀ j, (h : j < ls.length) → W.cell? ⟨b, off + j, none⟩ = some (.string ls[j]))
theorem strsArg.at {W : World} {v : Value} {ls : List ByteArray} (h : strsArg W v ls) : ∃ ao cap, v = .slice ao ls.length cap ∧ ls.length ≤ cap ∧ cap ≤ maxLen ∧
    ∀ j, (h : j < ls.length) → ∃ b off, ao = some ⟨b, off, none⟩ ∧ b < W.heap.size ∧ W.cell? ⟨b, off + j, none⟩ = some (.string ls[j]) ∧ ls[j].size ≤ maxLen := by
  obtain ⟨ao, cap, e, h1, h2, h3, h4⟩ := h
  refine ⟨ao, cap, e, h1, h2, fun j hj => ?_⟩
  rcases h4 with rfl | ⟨b, off, e, hb, hc⟩
  · simp at hj
  · exact ⟨b, off, e, hb, hc j hj, h3 _ (List.getElem_mem hj)⟩
theorem strsArg_open {H : Type} {enc : TypeId × Value → H} {P : Program} {W : World} {base : Nat} {t e : TypeId} {v : Value} {d : DataW H} {p : List MemPlace}
    (ht : P.underlying t = some (.slice e)) (he : P.underlying e = some .string) (ce : P.cellsOf e = 1)
    (hv : Value.okWide P W .any base t v) (h : DataW.Trod enc P W 0 (fun _ => true) true t v d p) : ∃ ls, strsArg W v ls := by
  obtain ⟨a0, len, cap, rfl⟩ := okWide_slice ht hv
  obtain ⟨fuel, hf⟩ := h
  rcases open_strs ht he ce hf with ⟨hcs, hx⟩ | ⟨a, len', cap', m, Sx, hcs, _, hl, hm, hmm, hx, hr⟩
  · simp [Value.cells] at hcs
    obtain ⟨rfl, rfl, rfl⟩ := hcs
    exact ⟨[], none, 0, rfl, Nat.le_refl _, Nat.zero_le _, (fun _ h => by cases h), .inl rfl⟩
  · simp [Value.cells] at hcs
    obtain ⟨rfl, rfl, rfl⟩ := hcs
    have hlm : len ≤ m := by rw [hmm]; split <;> omega
    refine ⟨(List.range len).map Sx, some a, cap, by simp, by simpa using hl, hm, ?_, ?_⟩
    · intro s hs
      obtain ⟨j, hj, rfl⟩ := List.mem_map.1 hs
      exact (hr j (by have := List.mem_range.1 hj; omega)).2
    · by_cases h0 : len = 0
      · left; subst h0; rfl
      · right
        have hc0 := (hr 0 (by omega)).1
        obtain ⟨b, off, spot⟩ := a
        have hspot : spot = none := by simpa [Addr.add] using World.cell?_spot hc0
        subst hspot
        refine ⟨b, off, rfl, ?_, fun j hj => ?_⟩
        · have := World.block_lt_of_cell? W _ hc0
          simpa [Addr.add_lit] using this
        · have hj' : j < len := by simpa using hj
          have := (hr j (by omega)).1
          rw [Addr.add_lit] at this
          rw [this]
          simp
/-- '[]byte(s)': what it lays, as bytes that came in. -/
theorem bytesRow_arg (W : World) (s : ByteArray) (e : TypeId) (fr : Nat × Nat) (hs : s.size ≤ maxLen) :
    bytesArg (W.drew.alloc (.cells (bytesRow s (grownCap W s.size 0 e)) e fr)) (.slice (some ⟨W.heap.size, 0, none⟩) s.size (grownCap W s.size 0 e)) s.data.toList := by
  refine ⟨_, grownCap W s.size 0 e, by rw [len_toList], by rw [len_toList]; exact grownCap_ge _ _ _ _, grownCap_le_maxLen _ _ _ _ hs, .inr ⟨W.heap.size, 0, rfl, by simp, fun j hj => ?_⟩⟩
  have hnew : (W.drew.alloc (.cells (bytesRow s (grownCap W s.size 0 e)) e fr)).heap[W.heap.size]? = some (.cells (bytesRow s (grownCap W s.size 0 e)) e fr) := heap_alloc_new W.drew _
  simp only [World.cell?, hnew, Nat.zero_add]
  have hj' : j < s.size := by simpa using hj
  simp [bytesRow, byteV, Array.getElem?_append, hj']
theorem conv_bytesArg {P : Program} (w : World) (src dst e : TypeId) (s : ByteArray) (hsz : s.size ≤ maxLen) (hs : P.underlying src = some .string) (hd : P.underlying dst = some (.slice e)) (he : P.underlying e = some (.int .u8)) :
    ∃ W1 cap, (convert src dst (.string s)).run P w = .ok (.slice (some ⟨w.heap.size, 0, none⟩) s.size cap) W1 ∧ bytesArg W1 (.slice (some ⟨w.heap.size, 0, none⟩) s.size cap) s.data.toList ∧ Below w.heap.size w W1 :=
  ⟨_, _, run_bytes_of_string (P := P) w src dst e s hs hd he, bytesRow_arg w s e _ hsz, (Below.refl _ _).drew.alloc (Nat.le_refl _) _⟩
end Go.Proofs.YtkkdplccneeaiaaGreatDoor
