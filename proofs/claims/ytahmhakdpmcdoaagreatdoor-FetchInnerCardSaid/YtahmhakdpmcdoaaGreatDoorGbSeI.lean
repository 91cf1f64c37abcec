/- A section's spec, plain and in memory (what layer 16 needs of it). -/
import Derived.Test.YtahmhakdpmcdoaaGreatDoorKit2
import Derived.Test.YtahmhakdpmcdoaaGreatDoorGbParM
import Derived.OwnWalk
import Derived.Laws.OwnMore
namespace Go.Proofs.YtahmhakdpmcdoaaGreatDoor
open Go Go.RowKit

/-- A spec, plain. -/
structure Spc where
  path : List Int
  what : Int
  names : List (List UInt8)
  cut : Bool
  frm : Int
  many : Int
def intV (n : Int) : Value := .int .i64 n
def nilV : Value := .slice none 0 0
/-- A spec in memory. -/
def Box (W : World) (S : Nat) (vp : Value) (k : Int) (vn : Value) (c : Bool) (a b : Int) : Prop :=
  W.heap[S]? = some (.cells #[vp, .int .i64 k, vn, .bool c, .int .i64 a, .int .i64 b] 26 (0, 0))
theorem Box.lt {W : World} {S : Nat} {vp : Value} {k : Int} {vn : Value} {c : Bool} {a b : Int} (h : Box W S vp k vn c a b) : S < W.heap.size := (Array.getElem?_eq_some_iff.1 h).1
theorem Box.block {W W' : World} {S : Nat} {vp : Value} {k : Int} {vn : Value} {c : Bool} {a b : Int} (h : Box W S vp k vn c a b) (hb : W'.heap[S]? = W.heap[S]?) : Box W' S vp k vn c a b := hb.trans h
theorem Box.below {W W' : World} {S : Nat} {vp : Value} {k : Int} {vn : Value} {c : Bool} {a b : Int} (h : Box W S vp k vn c a b) (hb : Below W.heap.size W W') : Box W' S vp k vn c a b := h.block (hb.block S h.lt)
theorem Box.c {W : World} {S : Nat} {vp : Value} {k : Int} {vn : Value} {c : Bool} {a b : Int} (h : Box W S vp k vn c a b) :
    W.cell? ⟨S, 0, none⟩ = some vp ∧ W.cell? ⟨S, 1, none⟩ = some (.int .i64 k) ∧ W.cell? ⟨S, 2, none⟩ = some vn ∧ W.cell? ⟨S, 3, none⟩ = some (.bool c) ∧ W.cell? ⟨S, 4, none⟩ = some (.int .i64 a) ∧ W.cell? ⟨S, 5, none⟩ = some (.int .i64 b) := by
  unfold Box at h
  refine ⟨?_, ?_, ?_, ?_, ?_, ?_⟩ <;> simp [World.cell?, h]
theorem Box.f {W : World} {S : Nat} {vp : Value} {k : Int} {vn : Value} {c : Bool} {a b : Int} (h : Box W S vp k vn c a b) (j : Nat) : W.frozen? ⟨S, j, none⟩ = false := by
  unfold Box at h
  simp [World.frozen?, h]
theorem Box.set3 {W : World} {S : Nat} {vp : Value} {k : Int} {vn : Value} {c : Bool} {a b : Int} (h : Box W S vp k vn c a b) (x : Bool) : Box (W.setCell ⟨S, 3, none⟩ (.bool x)) S vp k vn x a b := by
  unfold Box at h ⊢
  simp [World.setCell, Array.getElem?_modify, h]
theorem Box.set4 {W : World} {S : Nat} {vp : Value} {k : Int} {vn : Value} {c : Bool} {a b : Int} (h : Box W S vp k vn c a b) (x : Int) : Box (W.setCell ⟨S, 4, none⟩ (.int .i64 x)) S vp k vn c x b := by
  unfold Box at h ⊢
  simp [World.setCell, Array.getElem?_modify, h]
theorem Box.set5 {W : World} {S : Nat} {vp : Value} {k : Int} {vn : Value} {c : Bool} {a b : Int} (h : Box W S vp k vn c a b) (x : Int) : Box (W.setCell ⟨S, 5, none⟩ (.int .i64 x)) S vp k vn c a x := by
  unfold Box at h ⊢
  simp [World.setCell, Array.getElem?_modify, h]
end Go.Proofs.YtahmhakdpmcdoaaGreatDoor

/- Contracts of package section: Check. -/
namespace Go.Proofs.YtahmhakdpmcdoaaGreatDoor
open Go Go.RowKit

/-- A slice of cells of one value each, wherever it lies. -/
def rowOf (W : World) (v : Value) (xs : List Value) : Prop :=
  ∃ ao cap, v = .slice ao xs.length cap ∧ (xs = [] ∨ ∃ b off, ao = some ⟨b, off, none⟩ ∧ b < W.heap.size ∧ ∀ j, (h : j < xs.length) → W.cell? ⟨b, off + j, none⟩ = some xs[j])
theorem rowOf.below {W W' : World} {v : Value} {xs : List Value} (h : rowOf W v xs) (hb : Below W.heap.size W W') : rowOf W' v xs := by
  obtain ⟨ao, cap, e, h⟩ := h
  refine ⟨ao, cap, e, ?_⟩
  rcases h with h | ⟨b, off, e2, hlt, hc⟩
  · exact .inl h
  · exact .inr ⟨b, off, e2, Nat.lt_of_lt_of_le hlt hb.size, fun j hj => (hb.cell (p := ⟨b, off + j, none⟩) hlt).trans (hc j hj)⟩
theorem rowOf.at {W : World} {ao : Option Addr} {n cap : Nat} {xs : List Value} (h : rowOf W (.slice ao n cap) xs) (j : Nat) (hj : j < xs.length) : ∃ b off, ao = some ⟨b, off, none⟩ ∧ b < W.heap.size ∧ W.cell? ⟨b, off + j, none⟩ = some xs[j] := by
  obtain ⟨a, c, e, h⟩ := h
  cases e
  rcases h with rfl | ⟨b, off, e2, hlt, hc⟩
  · simp at hj
  · exact ⟨b, off, e2, hlt, hc j hj⟩
theorem rowOf_owned {W : World} {base n : Nat} {e : TypeId} {v : Value} {xs : List Value} (h : W.ownsRow base e 1 v n xs) : rowOf W v xs := by
  have h1 := h.1
  rcases h.2 with ⟨rfl, hn⟩ | ⟨g, cap, cur, rfl, _, hh, _⟩
  · have : xs = [] := List.eq_nil_of_length_eq_zero (by rw [h1, hn])
    subst this
    exact ⟨none, 0, rfl, .inl rfl⟩
  · have hn : n = xs.length := by omega
    subst hn
    refine ⟨_, cap, rfl, .inr ⟨g, 0, rfl, (Array.getElem?_eq_some_iff.1 hh).1, fun j hj => ?_⟩⟩
    rw [Nat.zero_add]
    exact (rowAt_owned h).cell j hj
theorem rowOf.slice {W : World} {v : Value} {xs : List Value} (h : rowOf W v xs) : ∃ ao cap, v = .slice ao xs.length cap := by
  obtain ⟨ao, cap, e, _⟩ := h
  exact ⟨ao, cap, e⟩
/-- A spec that came in, or that the call itself made. -/
structure SpA (W : World) (s : Spc) (a1 a2 : Option Addr) (c1 c2 : Nat) : Prop where
  rp : rowOf W (.slice a1 s.path.length c1) (s.path.map intV)
  rn : rowOf W (.slice a2 s.names.length c2) (s.names.map strV)
  hn : ∀ a ∈ s.names, a.length ≤ 1000000000
theorem SpA.below {W W' : World} {s : Spc} {a1 a2 : Option Addr} {c1 c2 : Nat} (h : SpA W s a1 a2 c1 c2) (hb : Below W.heap.size W W') : SpA W' s a1 a2 c1 c2 := ⟨h.rp.below hb, h.rn.below hb, h.hn⟩
def spV (s : Spc) (a1 a2 : Option Addr) (c1 c2 : Nat) : Value := .agg #[.slice a1 s.path.length c1, .int .i64 s.what, .slice a2 s.names.length c2, .bool s.cut, .int .i64 s.frm, .int .i64 s.many]

def numOk (least n : Int) : Bool := decide (least ≤ n) && decide (n ≤ 4294967295)
def pathOk (p : List Int) : Bool := decide (p.length ≤ 64) && p.all (numOk 1)
def byteOk (c : UInt8) : Bool := decide (32 ≤ (c.toNat : Int)) && decide ((c.toNat : Int) ≤ 126)
def nameOk (a : List UInt8) : Bool := a.all byteOk
def namesOk (ns : List (List UInt8)) : Bool := decide (1 ≤ ns.length) && (decide (ns.length ≤ 100) && ns.all nameOk)
def whatOk (s : Spc) : Bool :=
  if s.what = 0 ∨ s.what = 1 ∨ s.what = 4 then s.names.isEmpty else if s.what = 2 ∨ s.what = 3 then namesOk s.names else if s.what = 5 then s.names.isEmpty && !s.path.isEmpty else false
def cutOk (s : Spc) : Bool := if s.cut then numOk 0 s.frm && numOk 1 s.many else decide (s.frm = 0) && decide (s.many = 0)
def checkS (s : Spc) : Bool := pathOk s.path && (whatOk s && cutOk s)

theorem isNumber_any (n least : Int) (w : World) :
    Calls Tryz.prog 60 #[.int .i64 n, .int .i64 least] w fun e w' => e = .returned (.bool (numOk least n)) ∧ w = w' := by
  by_cases h : least ≤ n
  · have h1 : decide (least ≤ n) = true := decide_eq_true h
    go_enter Tryz.func60, Tryz.ntmps60
    go_wp2
    go_ret
    exact ⟨ret_bool (by unfold numOk; rw [h1]; simp), rfl⟩
  · have h1 : decide (least ≤ n) = false := decide_eq_false h
    go_enter Tryz.func60, Tryz.ntmps60
    go_wp2
    go_ret
    exact ⟨ret_bool (by unfold numOk; rw [h1]; rfl), rfl⟩
theorem all_step {α : Type} {p : α → Bool} {l : List α} {i : Nat} (h : i < l.length) (h1 : (l.take i).all p = true) (h2 : p l[i] = true) : (l.take (i + 1)).all p = true := by
  rw [List.take_succ_eq_append_getElem h, List.all_append, h1]
  simp [h2]
theorem all_no {α : Type} {p : α → Bool} {l : List α} {i : Nat} (h : i < l.length) (h2 : p l[i] = false) : l.all p = false := by
  rw [List.all_eq_false]
  exact ⟨l[i], List.getElem_mem h, by simp [h2]⟩
theorem all_end {α : Type} {p : α → Bool} {l : List α} {i : Nat} (h : ¬ i < l.length) (h1 : (l.take i).all p = true) : l.all p = true := by
  rw [List.take_of_length_le (by omega)] at h1
  exact h1
set_option maxRecDepth 100000 in
set_option maxHeartbeats 1000000 in
theorem isPath_any (p : List Int) (ao : Option Addr) (cap : Nat) (w : World) (h : rowOf w (.slice ao p.length cap) (p.map intV)) :
    Calls Tryz.prog 38 #[.slice ao p.length cap] w fun e w' => e = .returned (.bool (pathOk p)) ∧ w = w' := by
  have HN := Lib.hid isNumber_any
  have HR := Lib.hid h
  by_cases hl : p.length ≤ 64
  · have hd : decide (p.length ≤ 64) = true := decide_eq_true hl
    have HE : Hid (pathOk p = p.all (numOk 1)) := by unfold Hid pathOk; rw [hd]; rfl
    have hn : ¬ (64 < (p.length : Int)) := by omega
    clear h hd
    go_enter Tryz.func38, Tryz.ntmps38
    go_wp2_with fail
    go_loopg [10] p.length (fun q xi wr => ∃ i : Nat, i ≤ p.length ∧ q = p.length - i ∧ xi = .int .i64 (i : Int) ∧ Hid ((p.take i).all (numOk 1) = true) ∧ w = wr)
    case atStart => exact ⟨0, by omega, by omega, rfl, rfl, rfl⟩
    case round =>
      obtain ⟨i, hi, rfl, rfl, HS, rfl⟩ := hrel
      by_cases hlt : i < p.length
      · obtain ⟨b, off, rfl, hb, hc⟩ := HR.out.at i (by simpa using hlt)
        have hc' : w.cell? ⟨b, off + i, none⟩ = some (.int .i64 p[i]) := by rw [hc]; simp [intV]
        have HNi := Lib.hid (HN.out p[i] 1 w)
        obtain ⟨x, hx⟩ : ∃ x, x = p[i] := ⟨_, rfl⟩
        rw [← hx] at hc' HNi
        have HX := Lib.hid hx
        clear hc hx
        rcases Bool.eq_false_or_eq_true (numOk 1 x) with hb2 | hb2
        · rw [hb2] at HNi
          go_wp2_with (go_at_call 60; refine HNi.out.mono ?_; rintro e w2 ⟨rfl, rfl⟩)
          go_roundg (p.length - (i + 1))
          case measure => omega
          case rel => exact ⟨i + 1, by omega, rfl, by go_num, all_step hlt HS.out (by rw [← HX.out]; exact hb2), rfl⟩
        · rw [hb2] at HNi
          go_wp2_with (go_at_call 60; refine HNi.out.mono ?_; rintro e w2 ⟨rfl, rfl⟩)
          go_ret
          rw [HE.out, all_no hlt (by rw [← HX.out]; exact hb2)]
          exact ⟨rfl, rfl⟩
      · go_wp2_with fail
        go_ret
        rw [HE.out, all_end hlt HS.out]
        exact ⟨rfl, rfl⟩
  · have hd : decide (p.length ≤ 64) = false := decide_eq_false hl
    have HE : Hid (pathOk p = false) := by unfold Hid pathOk; rw [hd]; rfl
    have hn : (64 < (p.length : Int)) := by omega
    clear h hd
    go_enter Tryz.func38, Tryz.ntmps38
    go_wp2_with fail
    go_ret
    rw [HE.out]
    exact ⟨rfl, rfl⟩
set_option maxRecDepth 100000 in
set_option maxHeartbeats 1000000 in
theorem isName_any (s : ByteArray) (w : World) (hl : s.size ≤ 9223372036854775807) :
    Calls Tryz.prog 85 #[.string s] w fun e w' => e = .returned (.bool (nameOk s.data.toList)) ∧ w = w' := by
  go_enter Tryz.func85, Tryz.ntmps85
  go_wp2_with fail
  go_loopg [6] s.size (fun q xi wr => ∃ i : Nat, i ≤ s.size ∧ q = s.size - i ∧ xi = .int .i64 (i : Int) ∧ Hid ((s.data.toList.take i).all byteOk = true) ∧ w = wr)
  case atStart => exact ⟨0, by omega, by omega, rfl, rfl, rfl⟩
  case round =>
    obtain ⟨i, hi, rfl, rfl, HS, rfl⟩ := hrel
    by_cases hlt : i < s.size
    · have HB : Hid (byteOk s[i] = (decide (32 ≤ (s[i].toNat : Int)) && decide ((s[i].toNat : Int) ≤ 126))) := rfl
      have HT : Hid ((s.data.toList.take (i + 1)).all byteOk = byteOk s[i]) := by
        unfold Hid
        rw [take_snoc s i hlt, List.all_append, HS.out]
        simp
      have HF : Hid (byteOk s[i] = false → nameOk s.data.toList = false) := fun h => all_no (l := s.data.toList) (i := i) (by simpa using hlt) h
      by_cases h1 : (s[i].toNat : Int) < 32
      · have HX : Hid (byteOk s[i] = false) := by unfold Hid; rw [HB.out, decide_eq_false (by omega)]; rfl
        go_wp2_with fail
        go_ret
        rw [HF.out HX.out]
        exact ⟨rfl, rfl⟩
      · by_cases h2 : 126 < (s[i].toNat : Int)
        · have HX : Hid (byteOk s[i] = false) := by unfold Hid; rw [HB.out, decide_eq_false (p := (s[i].toNat : Int) ≤ 126) (by omega)]; simp
          go_wp2_with fail
          go_ret
          rw [HF.out HX.out]
          exact ⟨rfl, rfl⟩
        · have HX : Hid (byteOk s[i] = true) := by unfold Hid; rw [HB.out, decide_eq_true (by omega), decide_eq_true (by omega)]; rfl
          go_wp2_with fail
          go_roundg (s.size - (i + 1))
          case measure => omega
          case rel => exact ⟨i + 1, by omega, rfl, by go_num, by unfold Hid; rw [HT.out, HX.out], rfl⟩
    · go_wp2_with fail
      go_ret
      have HX : nameOk s.data.toList = true := all_end (i := i) (by simpa using hlt) HS.out
      rw [HX]
      exact ⟨rfl, rfl⟩
set_option maxRecDepth 100000 in
set_option maxHeartbeats 1000000 in
theorem areNames_any (ns : List (List UInt8)) (ao : Option Addr) (cap : Nat) (w : World) (h : rowOf w (.slice ao ns.length cap) (ns.map strV)) (hn : ∀ a ∈ ns, a.length ≤ 1000000000) :
    Calls Tryz.prog 61 #[.slice ao ns.length cap] w fun e w' => e = .returned (.bool (namesOk ns)) ∧ w = w' := by
  have HN := Lib.hid isName_any
  have HR := Lib.hid h
  have HL := Lib.hid hn
  clear h hn
  by_cases h0 : ns.length < 1
  · have hi0 : (ns.length : Int) < 1 := by omega
    have HE : Hid (namesOk ns = false) := by unfold Hid namesOk; rw [decide_eq_false (by omega)]; rfl
    go_enter Tryz.func61, Tryz.ntmps61
    go_wp2_with fail
    go_ret
    rw [HE.out]
    exact ⟨rfl, rfl⟩
  · have hi0 : ¬ (ns.length : Int) < 1 := by omega
    by_cases h1 : ns.length ≤ 100
    · have hi1 : ¬ 100 < (ns.length : Int) := by omega
      have HE : Hid (namesOk ns = ns.all nameOk) := by unfold Hid namesOk; rw [decide_eq_true (by omega), decide_eq_true (by omega)]; rfl
      go_enter Tryz.func61, Tryz.ntmps61
      go_wp2_with fail
      go_loopg [15] ns.length (fun q xi wr => ∃ i : Nat, i ≤ ns.length ∧ q = ns.length - i ∧ xi = .int .i64 (i : Int) ∧ Hid ((ns.take i).all nameOk = true) ∧ w = wr)
      case atStart => exact ⟨0, by omega, by omega, rfl, rfl, rfl⟩
      case round =>
        obtain ⟨i, hi, rfl, rfl, HS, rfl⟩ := hrel
        by_cases hlt : i < ns.length
        · obtain ⟨b, off, rfl, hb, hc⟩ := HR.out.at i (by simpa using hlt)
          have hc' : w.cell? ⟨b, off + i, none⟩ = some (.string ⟨ns[i].toArray⟩) := by rw [hc]; simp [strV]
          have HNi := Lib.hid (HN.out ⟨ns[i].toArray⟩ w (by have := HL.out _ (List.getElem_mem hlt); show (ns[i].toArray).size ≤ _; simp; omega))
          have he : nameOk (⟨ns[i].toArray⟩ : ByteArray).data.toList = nameOk ns[i] := by simp
          rw [he] at HNi
          obtain ⟨x, hx⟩ : ∃ x, x = ns[i] := ⟨_, rfl⟩
          rw [← hx] at hc' HNi
          have HX := Lib.hid hx
          clear hc hx he
          rcases Bool.eq_false_or_eq_true (nameOk x) with hb2 | hb2
          · rw [hb2] at HNi
            go_wp2_with (go_at_call 85; refine HNi.out.mono ?_; rintro e w2 ⟨rfl, rfl⟩)
            go_roundg (ns.length - (i + 1))
            case measure => omega
            case rel => exact ⟨i + 1, by omega, rfl, by go_num, all_step hlt HS.out (by rw [← HX.out]; exact hb2), rfl⟩
          · rw [hb2] at HNi
            go_wp2_with (go_at_call 85; refine HNi.out.mono ?_; rintro e w2 ⟨rfl, rfl⟩)
            go_ret
            rw [HE.out, all_no hlt (by rw [← HX.out]; exact hb2)]
            exact ⟨rfl, rfl⟩
        · go_wp2_with fail
          go_ret
          rw [HE.out, all_end hlt HS.out]
          exact ⟨rfl, rfl⟩
    · have hi1 : 100 < (ns.length : Int) := by omega
      have HE : Hid (namesOk ns = false) := by unfold Hid namesOk; rw [decide_eq_false (p := ns.length ≤ 100) (by omega)]; simp
      go_enter Tryz.func61, Tryz.ntmps61
      go_wp2_with fail
      go_ret
      rw [HE.out]
      exact ⟨rfl, rfl⟩
end Go.Proofs.YtahmhakdpmcdoaaGreatDoor
