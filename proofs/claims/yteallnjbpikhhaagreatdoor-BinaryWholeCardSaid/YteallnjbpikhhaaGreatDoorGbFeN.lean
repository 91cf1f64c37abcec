/- A section's spec, plain and in memory (what layer 16 needs of it). -/
import Derived.Test.YteallnjbpikhhaaGreatDoorKit2
import Derived.Test.YteallnjbpikhhaaGreatDoorGbParM
import Derived.OwnWalk
import Derived.Laws.OwnMore
import Derived.Test.YteallnjbpikhhaaGreatDoorGbHdrH
import Derived.Test.YteallnjbpikhhaaGreatDoorGbTiM
namespace Go.Proofs.YteallnjbpikhhaaGreatDoor
open Go Go.RowKit

/-- A spec, plain. -/
structure Spc where
  path : List Int
  what : Int
  names : List (List UInt8)
  cut : Bool
  frm : Int
  many : Int
def intV (n : Int) : Value := .int .i64 n
def nilV : Value := .slice none 0 0
/-- A spec in memory. -/
def Box (W : World) (S : Nat) (vp : Value) (k : Int) (vn : Value) (c : Bool) (a b : Int) : Prop :=
  W.heap[S]? = some (.cells #[vp, .int .i64 k, vn, .bool c, .int .i64 a, .int .i64 b] 41 (0, 0))
theorem Box.lt {W : World} {S : Nat} {vp : Value} {k : Int} {vn : Value} {c : Bool} {a b : Int} (h : Box W S vp k vn c a b) : S < W.heap.size := (Array.getElem?_eq_some_iff.1 h).1
theorem Box.block {W W' : World} {S : Nat} {vp : Value} {k : Int} {vn : Value} {c : Bool} {a b : Int} (h : Box W S vp k vn c a b) (hb : W'.heap[S]? = W.heap[S]?) : Box W' S vp k vn c a b := hb.trans h
theorem Box.below {W W' : World} {S : Nat} {vp : Value} {k : Int} {vn : Value} {c : Bool} {a b : Int} (h : Box W S vp k vn c a b) (hb : Below W.heap.size W W') : Box W' S vp k vn c a b := h.block (hb.block S h.lt)
theorem Box.c {W : World} {S : Nat} {vp : Value} {k : Int} {vn : Value} {c : Bool} {a b : Int} (h : Box W S vp k vn c a b) :
    W.cell? ⟨S, 0, none⟩ = some vp ∧ W.cell? ⟨S, 1, none⟩ = some (.int .i64 k) ∧ W.cell? ⟨S, 2, none⟩ = some vn ∧ W.cell? ⟨S, 3, none⟩ = some (.bool c) ∧ W.cell? ⟨S, 4, none⟩ = some (.int .i64 a) ∧ W.cell? ⟨S, 5, none⟩ = some (.int .i64 b) := by
  unfold Box at h
  refine ⟨?_, ?_, ?_, ?_, ?_, ?_⟩ <;> simp [World.cell?, h]
theorem Box.f {W : World} {S : Nat} {vp : Value} {k : Int} {vn : Value} {c : Bool} {a b : Int} (h : Box W S vp k vn c a b) (j : Nat) : W.frozen? ⟨S, j, none⟩ = false := by
  unfold Box at h
  simp [World.frozen?, h]
theorem Box.set3 {W : World} {S : Nat} {vp : Value} {k : Int} {vn : Value} {c : Bool} {a b : Int} (h : Box W S vp k vn c a b) (x : Bool) : Box (W.setCell ⟨S, 3, none⟩ (.bool x)) S vp k vn x a b := by
  unfold Box at h ⊢
  simp [World.setCell, Array.getElem?_modify, h]
theorem Box.set4 {W : World} {S : Nat} {vp : Value} {k : Int} {vn : Value} {c : Bool} {a b : Int} (h : Box W S vp k vn c a b) (x : Int) : Box (W.setCell ⟨S, 4, none⟩ (.int .i64 x)) S vp k vn c x b := by
  unfold Box at h ⊢
  simp [World.setCell, Array.getElem?_modify, h]
theorem Box.set5 {W : World} {S : Nat} {vp : Value} {k : Int} {vn : Value} {c : Bool} {a b : Int} (h : Box W S vp k vn c a b) (x : Int) : Box (W.setCell ⟨S, 5, none⟩ (.int .i64 x)) S vp k vn c a x := by
  unfold Box at h ⊢
  simp [World.setCell, Array.getElem?_modify, h]
end Go.Proofs.YteallnjbpikhhaaGreatDoor

/- Contracts of package section: Check. -/
namespace Go.Proofs.YteallnjbpikhhaaGreatDoor
open Go Go.RowKit

/-- A slice of cells of one value each, wherever it lies. -/
def rowOf (W : World) (v : Value) (xs : List Value) : Prop :=
  ∃ ao cap, v = .slice ao xs.length cap ∧ (xs = [] ∨ ∃ b off, ao = some ⟨b, off, none⟩ ∧ b < W.heap.size ∧ ∀ j, (h : j < xs.length) → W.cell? ⟨b, off + j, none⟩ = some xs[j])
theorem rowOf.below {W W' : World} {v : Value} {xs : List Value} (h : rowOf W v xs) (hb : Below W.heap.size W W') : rowOf W' v xs := by
  obtain ⟨ao, cap, e, h⟩ := h
  refine ⟨ao, cap, e, ?_⟩
  rcases h with h | ⟨b, off, e2, hlt, hc⟩
  · exact .inl h
  · exact .inr ⟨b, off, e2, Nat.lt_of_lt_of_le hlt hb.size, fun j hj => (hb.cell (p := ⟨b, off + j, none⟩) hlt).trans (hc j hj)⟩
theorem rowOf.at {W : World} {ao : Option Addr} {n cap : Nat} {xs : List Value} (h : rowOf W (.slice ao n cap) xs) (j : Nat) (hj : j < xs.length) : ∃ b off, ao = some ⟨b, off, none⟩ ∧ b < W.heap.size ∧ W.cell? ⟨b, off + j, none⟩ = some xs[j] := by
  obtain ⟨a, c, e, h⟩ := h
  cases e
  rcases h with rfl | ⟨b, off, e2, hlt, hc⟩
  · simp at hj
  · exact ⟨b, off, e2, hlt, hc j hj⟩
theorem rowOf_owned {W : World} {base n : Nat} {e : TypeId} {v : Value} {xs : List Value} (h : W.ownsRow base e 1 v n xs) : rowOf W v xs := by
  have h1 := h.1
  rcases h.2 with ⟨rfl, hn⟩ | ⟨g, cap, cur, rfl, _, hh, _⟩
  · have : xs = [] := List.eq_nil_of_length_eq_zero (by rw [h1, hn])
    subst this
    exact ⟨none, 0, rfl, .inl rfl⟩
  · have hn : n = xs.length := by omega
    subst hn
    refine ⟨_, cap, rfl, .inr ⟨g, 0, rfl, (Array.getElem?_eq_some_iff.1 hh).1, fun j hj => ?_⟩⟩
    rw [Nat.zero_add]
    exact (rowAt_owned h).cell j hj
theorem rowOf.slice {W : World} {v : Value} {xs : List Value} (h : rowOf W v xs) : ∃ ao cap, v = .slice ao xs.length cap := by
  obtain ⟨ao, cap, e, _⟩ := h
  exact ⟨ao, cap, e⟩
/-- A spec that came in, or that the call itself made. -/
structure SpA (W : World) (s : Spc) (a1 a2 : Option Addr) (c1 c2 : Nat) : Prop where
  rp : rowOf W (.slice a1 s.path.length c1) (s.path.map intV)
  rn : rowOf W (.slice a2 s.names.length c2) (s.names.map strV)
  hn : ∀ a ∈ s.names, a.length ≤ 1000000000
theorem SpA.below {W W' : World} {s : Spc} {a1 a2 : Option Addr} {c1 c2 : Nat} (h : SpA W s a1 a2 c1 c2) (hb : Below W.heap.size W W') : SpA W' s a1 a2 c1 c2 := ⟨h.rp.below hb, h.rn.below hb, h.hn⟩
def spV (s : Spc) (a1 a2 : Option Addr) (c1 c2 : Nat) : Value := .agg #[.slice a1 s.path.length c1, .int .i64 s.what, .slice a2 s.names.length c2, .bool s.cut, .int .i64 s.frm, .int .i64 s.many]

def numOk (least n : Int) : Bool := decide (least ≤ n) && decide (n ≤ 4294967295)
def pathOk (p : List Int) : Bool := decide (p.length ≤ 64) && p.all (numOk 1)
def byteOk (c : UInt8) : Bool := decide (32 ≤ (c.toNat : Int)) && decide ((c.toNat : Int) ≤ 126)
def nameOk (a : List UInt8) : Bool := a.all byteOk
def namesOk (ns : List (List UInt8)) : Bool := decide (1 ≤ ns.length) && (decide (ns.length ≤ 100) && ns.all nameOk)
def whatOk (s : Spc) : Bool :=
  if s.what = 0 ∨ s.what = 1 ∨ s.what = 4 then s.names.isEmpty else if s.what = 2 ∨ s.what = 3 then namesOk s.names else if s.what = 5 then s.names.isEmpty && !s.path.isEmpty else false
def cutOk (s : Spc) : Bool := if s.cut then numOk 0 s.frm && numOk 1 s.many else decide (s.frm = 0) && decide (s.many = 0)
def checkS (s : Spc) : Bool := pathOk s.path && (whatOk s && cutOk s)

theorem isNumber_any (n least : Int) (w : World) :
    Calls Tryz.prog 82 #[.int .i64 n, .int .i64 least] w fun e w' => e = .returned (.bool (numOk least n)) ∧ w = w' := by
  by_cases h : least ≤ n
  · have h1 : decide (least ≤ n) = true := decide_eq_true h
    go_enter Tryz.func82, Tryz.ntmps82
    go_wp2
    go_ret
    exact ⟨ret_bool (by unfold numOk; rw [h1]; simp), rfl⟩
  · have h1 : decide (least ≤ n) = false := decide_eq_false h
    go_enter Tryz.func82, Tryz.ntmps82
    go_wp2
    go_ret
    exact ⟨ret_bool (by unfold numOk; rw [h1]; rfl), rfl⟩
theorem all_step {α : Type} {p : α → Bool} {l : List α} {i : Nat} (h : i < l.length) (h1 : (l.take i).all p = true) (h2 : p l[i] = true) : (l.take (i + 1)).all p = true := by
  rw [List.take_succ_eq_append_getElem h, List.all_append, h1]
  simp [h2]
theorem all_no {α : Type} {p : α → Bool} {l : List α} {i : Nat} (h : i < l.length) (h2 : p l[i] = false) : l.all p = false := by
  rw [List.all_eq_false]
  exact ⟨l[i], List.getElem_mem h, by simp [h2]⟩
theorem all_end {α : Type} {p : α → Bool} {l : List α} {i : Nat} (h : ¬ i < l.length) (h1 : (l.take i).all p = true) : l.all p = true := by
  rw [List.take_of_length_le (by omega)] at h1
  exact h1
set_option maxRecDepth 100000 in
set_option maxHeartbeats 1000000 in
theorem isPath_any (p : List Int) (ao : Option Addr) (cap : Nat) (w : World) (h : rowOf w (.slice ao p.length cap) (p.map intV)) :
    Calls Tryz.prog 52 #[.slice ao p.length cap] w fun e w' => e = .returned (.bool (pathOk p)) ∧ w = w' := by
  have HN := Lib.hid isNumber_any
  have HR := Lib.hid h
  by_cases hl : p.length ≤ 64
  · have hd : decide (p.length ≤ 64) = true := decide_eq_true hl
    have HE : Hid (pathOk p = p.all (numOk 1)) := by unfold Hid pathOk; rw [hd]; rfl
    have hn : ¬ (64 < (p.length : Int)) := by omega
    clear h hd
    go_enter Tryz.func52, Tryz.ntmps52
    go_wp2_with fail
    go_loopg [10] p.length (fun q xi wr => ∃ i : Nat, i ≤ p.length ∧ q = p.length - i ∧ xi = .int .i64 (i : Int) ∧ Hid ((p.take i).all (numOk 1) = true) ∧ w = wr)
    case atStart => exact ⟨0, by omega, by omega, rfl, rfl, rfl⟩
    case round =>
      obtain ⟨i, hi, rfl, rfl, HS, rfl⟩ := hrel
      by_cases hlt : i < p.length
      · obtain ⟨b, off, rfl, hb, hc⟩ := HR.out.at i (by simpa using hlt)
        have hc' : w.cell? ⟨b, off + i, none⟩ = some (.int .i64 p[i]) := by rw [hc]; simp [intV]
        have HNi := Lib.hid (HN.out p[i] 1 w)
        obtain ⟨x, hx⟩ : ∃ x, x = p[i] := ⟨_, rfl⟩
        rw [← hx] at hc' HNi
        have HX := Lib.hid hx
        clear hc hx
        rcases Bool.eq_false_or_eq_true (numOk 1 x) with hb2 | hb2
        · rw [hb2] at HNi
          go_wp2_with (go_at_call 82; refine HNi.out.mono ?_; rintro e w2 ⟨rfl, rfl⟩)
          go_roundg (p.length - (i + 1))
          case measure => omega
          case rel => exact ⟨i + 1, by omega, rfl, by go_num, all_step hlt HS.out (by rw [← HX.out]; exact hb2), rfl⟩
        · rw [hb2] at HNi
          go_wp2_with (go_at_call 82; refine HNi.out.mono ?_; rintro e w2 ⟨rfl, rfl⟩)
          go_ret
          rw [HE.out, all_no hlt (by rw [← HX.out]; exact hb2)]
          exact ⟨rfl, rfl⟩
      · go_wp2_with fail
        go_ret
        rw [HE.out, all_end hlt HS.out]
        exact ⟨rfl, rfl⟩
  · have hd : decide (p.length ≤ 64) = false := decide_eq_false hl
    have HE : Hid (pathOk p = false) := by unfold Hid pathOk; rw [hd]; rfl
    have hn : (64 < (p.length : Int)) := by omega
    clear h hd
    go_enter Tryz.func52, Tryz.ntmps52
    go_wp2_with fail
    go_ret
    rw [HE.out]
    exact ⟨rfl, rfl⟩
set_option maxRecDepth 100000 in
set_option maxHeartbeats 1000000 in
theorem isName_any (s : ByteArray) (w : World) (hl : s.size ≤ 9223372036854775807) :
    Calls Tryz.prog 107 #[.string s] w fun e w' => e = .returned (.bool (nameOk s.data.toList)) ∧ w = w' := by
  go_enter Tryz.func107, Tryz.ntmps107
  go_wp2_with fail
  go_loopg [6] s.size (fun q xi wr => ∃ i : Nat, i ≤ s.size ∧ q = s.size - i ∧ xi = .int .i64 (i : Int) ∧ Hid ((s.data.toList.take i).all byteOk = true) ∧ w = wr)
  case atStart => exact ⟨0, by omega, by omega, rfl, rfl, rfl⟩
  case round =>
    obtain ⟨i, hi, rfl, rfl, HS, rfl⟩ := hrel
    by_cases hlt : i < s.size
    · have HB : Hid (byteOk s[i] = (decide (32 ≤ (s[i].toNat : Int)) && decide ((s[i].toNat : Int) ≤ 126))) := rfl
      have HT : Hid ((s.data.toList.take (i + 1)).all byteOk = byteOk s[i]) := by
        unfold Hid
        rw [take_snoc s i hlt, List.all_append, HS.out]
        simp
      have HF : Hid (byteOk s[i] = false → nameOk s.data.toList = false) := fun h => all_no (l := s.data.toList) (i := i) (by simpa using hlt) h
      by_cases h1 : (s[i].toNat : Int) < 32
      · have HX : Hid (byteOk s[i] = false) := by unfold Hid; rw [HB.out, decide_eq_false (by omega)]; rfl
        go_wp2_with fail
        go_ret
        rw [HF.out HX.out]
        exact ⟨rfl, rfl⟩
      · by_cases h2 : 126 < (s[i].toNat : Int)
        · have HX : Hid (byteOk s[i] = false) := by unfold Hid; rw [HB.out, decide_eq_false (p := (s[i].toNat : Int) ≤ 126) (by omega)]; simp
          go_wp2_with fail
          go_ret
          rw [HF.out HX.out]
          exact ⟨rfl, rfl⟩
        · have HX : Hid (byteOk s[i] = true) := by unfold Hid; rw [HB.out, decide_eq_true (by omega), decide_eq_true (by omega)]; rfl
          go_wp2_with fail
          go_roundg (s.size - (i + 1))
          case measure => omega
          case rel => exact ⟨i + 1, by omega, rfl, by go_num, by unfold Hid; rw [HT.out, HX.out], rfl⟩
    · go_wp2_with fail
      go_ret
      have HX : nameOk s.data.toList = true := all_end (i := i) (by simpa using hlt) HS.out
      rw [HX]
      exact ⟨rfl, rfl⟩
set_option maxRecDepth 100000 in
set_option maxHeartbeats 1000000 in
theorem areNames_any (ns : List (List UInt8)) (ao : Option Addr) (cap : Nat) (w : World) (h : rowOf w (.slice ao ns.length cap) (ns.map strV)) (hn : ∀ a ∈ ns, a.length ≤ 1000000000) :
    Calls Tryz.prog 83 #[.slice ao ns.length cap] w fun e w' => e = .returned (.bool (namesOk ns)) ∧ w = w' := by
  have HN := Lib.hid isName_any
  have HR := Lib.hid h
  have HL := Lib.hid hn
  clear h hn
  by_cases h0 : ns.length < 1
  · have hi0 : (ns.length : Int) < 1 := by omega
    have HE : Hid (namesOk ns = false) := by unfold Hid namesOk; rw [decide_eq_false (by omega)]; rfl
    go_enter Tryz.func83, Tryz.ntmps83
    go_wp2_with fail
    go_ret
    rw [HE.out]
    exact ⟨rfl, rfl⟩
  · have hi0 : ¬ (ns.length : Int) < 1 := by omega
    by_cases h1 : ns.length ≤ 100
    · have hi1 : ¬ 100 < (ns.length : Int) := by omega
      have HE : Hid (namesOk ns = ns.all nameOk) := by unfold Hid namesOk; rw [decide_eq_true (by omega), decide_eq_true (by omega)]; rfl
      go_enter Tryz.func83, Tryz.ntmps83
      go_wp2_with fail
      go_loopg [15] ns.length (fun q xi wr => ∃ i : Nat, i ≤ ns.length ∧ q = ns.length - i ∧ xi = .int .i64 (i : Int) ∧ Hid ((ns.take i).all nameOk = true) ∧ w = wr)
      case atStart => exact ⟨0, by omega, by omega, rfl, rfl, rfl⟩
      case round =>
        obtain ⟨i, hi, rfl, rfl, HS, rfl⟩ := hrel
        by_cases hlt : i < ns.length
        · obtain ⟨b, off, rfl, hb, hc⟩ := HR.out.at i (by simpa using hlt)
          have hc' : w.cell? ⟨b, off + i, none⟩ = some (.string ⟨ns[i].toArray⟩) := by rw [hc]; simp [strV]
          have HNi := Lib.hid (HN.out ⟨ns[i].toArray⟩ w (by have := HL.out _ (List.getElem_mem hlt); show (ns[i].toArray).size ≤ _; simp; omega))
          have he : nameOk (⟨ns[i].toArray⟩ : ByteArray).data.toList = nameOk ns[i] := by simp
          rw [he] at HNi
          obtain ⟨x, hx⟩ : ∃ x, x = ns[i] := ⟨_, rfl⟩
          rw [← hx] at hc' HNi
          have HX := Lib.hid hx
          clear hc hx he
          rcases Bool.eq_false_or_eq_true (nameOk x) with hb2 | hb2
          · rw [hb2] at HNi
            go_wp2_with (go_at_call 107; refine HNi.out.mono ?_; rintro e w2 ⟨rfl, rfl⟩)
            go_roundg (ns.length - (i + 1))
            case measure => omega
            case rel => exact ⟨i + 1, by omega, rfl, by go_num, all_step hlt HS.out (by rw [← HX.out]; exact hb2), rfl⟩
          · rw [hb2] at HNi
            go_wp2_with (go_at_call 107; refine HNi.out.mono ?_; rintro e w2 ⟨rfl, rfl⟩)
            go_ret
            rw [HE.out, all_no hlt (by rw [← HX.out]; exact hb2)]
            exact ⟨rfl, rfl⟩
        · go_wp2_with fail
          go_ret
          rw [HE.out, all_end hlt HS.out]
          exact ⟨rfl, rfl⟩
    · have hi1 : 100 < (ns.length : Int) := by omega
      have HE : Hid (namesOk ns = false) := by unfold Hid namesOk; rw [decide_eq_false (p := ns.length ≤ 100) (by omega)]; simp
      go_enter Tryz.func83, Tryz.ntmps83
      go_wp2_with fail
      go_ret
      rw [HE.out]
      exact ⟨rfl, rfl⟩
end Go.Proofs.YteallnjbpikhhaaGreatDoor

/- What of a message a spec tells, in plain words. No program. -/
namespace Go.Proofs.YteallnjbpikhhaaGreatDoor
open Go Go.RowKit

mutual
/-- Places in order, within so many bytes. -/
def okT (n : Nat) : Tr → Prop
  | .mk _ hd bd ks _ _ => (hd.1 ≤ hd.2 ∧ hd.2 = bd.1 ∧ bd.1 ≤ bd.2 ∧ bd.2 ≤ n) ∧ okK n ks
def okK (n : Nat) : List Tr → Prop
  | [] => True
  | t :: r => okT n t ∧ okK n r
end
theorem okT_open {n : Nat} {t : Tr} (h : okT n t) : (t.hd.1 ≤ t.hd.2 ∧ t.hd.2 = t.bd.1 ∧ t.bd.1 ≤ t.bd.2 ∧ t.bd.2 ≤ n) ∧ okK n t.kids := by
  cases t
  unfold okT at h
  exact h
theorem okT_mk {n k : Nat} {hd bd : Sp} {ks : List Tr} {cs : List Sp} {e : Sp} (h : hd.1 ≤ hd.2 ∧ hd.2 = bd.1 ∧ bd.1 ≤ bd.2 ∧ bd.2 ≤ n) (hk : okK n ks) : okT n (.mk k hd bd ks cs e) := by
  unfold okT
  exact ⟨h, hk⟩
theorem okK_nil (n : Nat) : okK n [] := by unfold okK; trivial
theorem okK_mem {n : Nat} : ∀ {ts : List Tr}, okK n ts → ∀ q ∈ ts, okT n q
  | [], _, q, h => by cases h
  | t :: r, hk, q, h => by
    unfold okK at hk
    rcases List.mem_cons.1 h with rfl | h
    · exact hk.1
    · exact okK_mem hk.2 q h
theorem kidsRun_okT {n : Nat} {F : Sp → Nat → Tr × Nat} : ∀ (ss : List Sp) (c : Nat), (∀ s ∈ ss, ∀ c', okT n (F s c').1) → okK n (kidsRun F ss c).1
  | [], _, _ => by unfold kidsRun; exact okK_nil _
  | s :: r, c, h => by
    have ih := kidsRun_okT r (F s c).2 fun s' hs' => h s' (List.mem_cons_of_mem _ hs')
    show okK n ((F s c).1 :: (kidsRun F r (F s c).2).1)
    unfold okK
    exact ⟨h s List.mem_cons_self c, ih⟩
theorem entS_okT (l : List UInt8) : ∀ (d : Nat) (s : Sp) (g : Bool) (c : Nat), s.1 ≤ s.2 → s.2 ≤ l.length → okT l.length (entS l d s g c).1
  | 0, s, g, c, h1, h2 => by
    have hh := hdOf_le l h1 h2
    exact okT_mk ⟨hh.1, rfl, hh.2, h2⟩ (okK_nil _)
  | d + 1, s, g, c, h1, h2 => by
    have hh := hdOf_le l h1 h2
    by_cases hc : (pdS l (fsOf l s.1 s.2) (hdOf l s.1 s.2) s.2 (typeS l (fsOf l s.1 s.2) g)).kids = [] ∨ 1000 < c + (pdS l (fsOf l s.1 s.2) (hdOf l s.1 s.2) s.2 (typeS l (fsOf l s.1 s.2) g)).kids.length
    · rw [entS_leaf hc]
      exact okT_mk ⟨hh.1, rfl, hh.2, h2⟩ (okK_nil _)
    · rw [entS_kids rfl rfl hc]
      have hin := pdS_in l (fsOf l s.1 s.2) hh.2 h2 (typeS l (fsOf l s.1 s.2) g)
      refine okT_mk ⟨hh.1, rfl, hh.2, h2⟩ (kidsRun_okT _ _ fun s' hs' c' => entS_okT l d s' _ c' (hin s' hs').1 (Nat.le_trans (hin s' hs').2 h2))
theorem tree_okT (l : List UInt8) : okT l.length (treeS l) := entS_okT l 32 (0, l.length) false 1 (Nat.zero_le _) (Nat.le_refl _)

def bsL (ns : List (List UInt8)) : List ByteArray := ns.map fun a => ⟨a.toArray⟩
/-- What is told of a message. -/
def msgL (l : List UInt8) (t : Tr) (s : Spc) : List UInt8 :=
  if s.what = 2 then someS l (fsOf l t.hd.1 t.hd.2) (bsL s.names) false
  else if s.what = 3 then someS l (fsOf l t.hd.1 t.hd.2) (bsL s.names) true
  else if s.what = 4 then partS l t.bd.1 t.bd.2
  else if s.what = 0 then partS l t.hd.1 t.bd.2
  else partS l t.hd.1 t.hd.2
/-- The parts of a message, and of a part. -/
def partsM (t : Tr) : List Tr := if t.kind = 1 then t.kids else [t]
def kidM (t : Tr) : List Tr := match t.kids with | k :: _ => partsM k | [] => []
def partsP (t : Tr) : List Tr := if t.kind = 1 then t.kids else if t.kind = 2 then kidM t else []
def partsB (m : Bool) (t : Tr) : List Tr := if m = true then partsM t else partsP t
def nthT (ts : List Tr) (n : Int) : Option Tr := if n < 1 then none else ts[n.toNat - 1]?
def downT : Bool → Tr → List Int → Option Tr
  | _, t, [] => some t
  | m, t, n :: r => match nthT (partsB m t) n with | none => none | some q => downT false q r
def kidL (l : List UInt8) (t : Tr) (s : Spc) : List UInt8 := match t.kids with | k :: _ => msgL l k s | [] => []
/-- What is told of a part. -/
def prtL (l : List UInt8) (t : Tr) (s : Spc) : List UInt8 :=
  if s.what = 0 then partS l t.bd.1 t.bd.2
  else if s.what = 5 then partS l t.hd.1 t.hd.2
  else if t.kind = 2 then kidL l t s
  else []
def pathL (l : List UInt8) (t : Tr) (s : Spc) : List UInt8 := match downT true t s.path with | none => [] | some q => prtL l q s
def allL (l : List UInt8) (t : Tr) (s : Spc) : List UInt8 :=
  if checkS s = true then (if s.path = [] then msgL l t s else pathL l t s) else []
def cut16 (x : List UInt8) (f m : Int) : List UInt8 := if f < 0 ∨ (x.length : Int) < f ∨ m < 1 then [] else (x.drop f.toNat).take m.toNat
def getL (l : List UInt8) (t : Tr) (s : Spc) : List UInt8 := if s.cut = true then cut16 (allL l t s) s.frm s.many else allL l t s

theorem cut16_no {x : List UInt8} {f m : Int} (h : f < 0 ∨ (x.length : Int) < f ∨ m < 1) : cut16 x f m = [] := by unfold cut16; rw [if_pos h]
theorem cut16_yes {x : List UInt8} {f m : Int} (h : ¬ (f < 0 ∨ (x.length : Int) < f ∨ m < 1)) : cut16 x f m = (x.drop f.toNat).take m.toNat := by unfold cut16; rw [if_neg h]
theorem partsM_ok {n : Nat} {t : Tr} (h : okT n t) : ∀ q ∈ partsM t, okT n q := by
  intro q hq
  unfold partsM at hq
  split at hq
  · exact okK_mem (okT_open h).2 q hq
  · rw [List.mem_singleton.1 hq]
    exact h
theorem kidM_ok {n : Nat} {t : Tr} (h : okT n t) : ∀ q ∈ kidM t, okT n q := by
  intro q hq
  unfold kidM at hq
  split at hq
  · next k r hk => exact partsM_ok (okK_mem (okT_open h).2 k (by rw [hk]; exact List.mem_cons_self)) q hq
  · cases hq
theorem partsB_ok {n : Nat} (m : Bool) {t : Tr} (h : okT n t) : ∀ q ∈ partsB m t, okT n q := by
  intro q hq
  unfold partsB at hq
  split at hq
  · exact partsM_ok h q hq
  · unfold partsP at hq
    split at hq
    · exact okK_mem (okT_open h).2 q hq
    · split at hq
      · exact kidM_ok h q hq
      · cases hq
theorem nthT_mem {ts : List Tr} {n : Int} {q : Tr} (h : nthT ts n = some q) : q ∈ ts := by
  unfold nthT at h
  split at h
  · cases h
  · exact List.mem_of_getElem? h
theorem downT_ok {n : Nat} : ∀ (p : List Int) (m : Bool) (t q : Tr), okT n t → downT m t p = some q → okT n q
  | [], m, t, q, h, e => by cases e; exact h
  | x :: r, m, t, q, h, e => by
    unfold downT at e
    split at e
    · cases e
    · next u hu => exact downT_ok r false u q (partsB_ok m h u (nthT_mem hu)) e

/-! How long it is. -/
theorem pieces_len3 (l : List UInt8) (ns : List ByteArray) (but : Bool) : ∀ (fs : List Fld) (a b : Nat), chainF l a b fs → b ≤ l.length → (piecesL l ns but fs).length ≤ 3 * (b - a)
  | [], a, b, _, _ => by simp [piecesL]
  | x :: r, a, b, h, hb => by
    obtain ⟨h1, ⟨h2, h3, _⟩, h4⟩ := h
    have h5 := chainF_le h4
    have ih := pieces_len3 l ns but r x.t b h4 hb
    have hp : (fpcL l x).length ≤ (x.t - x.f) + 2 := by
      unfold fpcL
      rw [List.length_append, partS_len l (by omega)]
      split <;> simp
    have e : (piecesL l ns but (x :: r)).length ≤ (fpcL l x).length + (piecesL l ns but r).length := by
      rw [show x :: r = [x] ++ r from rfl, piecesL_app, List.length_append]
      have : (piecesL l ns but [x]).length ≤ (fpcL l x).length := by
        unfold piecesL
        by_cases hk : keepB ns but x = true
        · rw [List.filter_cons_of_pos hk]
          simp
        · rw [List.filter_cons_of_neg hk]
          simp
      omega
    omega
theorem fsOf_chainF (l : List UInt8) {f t : Nat} (hft : f ≤ t) (htl : t ≤ l.length) : chainF l f t (fsOf l f t) :=
  fieldsL_chain l htl (chainL_take _ (chainL_lines l _ f t (Nat.le_refl _) hft htl))
theorem fsOf_in (l : List UInt8) {f t : Nat} (hft : f ≤ t) (htl : t ≤ l.length) : inF l (fsOf l f t) := fun x hx => by
  obtain ⟨⟨h1, h2, _⟩, h3⟩ := chainF_all (fsOf_chainF l hft htl) x hx
  exact ⟨by omega, by omega⟩
theorem someS_len3 (l : List UInt8) (ns : List ByteArray) (but : Bool) {f t : Nat} (hft : f ≤ t) (htl : t ≤ l.length) : (someS l (fsOf l f t) ns but).length ≤ 3 * l.length + 2 := by
  have := pieces_len3 l ns but _ f t (fsOf_chainF l hft htl) htl
  unfold someS
  rw [List.length_append]
  simp only [List.length_cons, List.length_nil]
  omega
theorem partS_le (l : List UInt8) (a b : Nat) : (partS l a b).length ≤ l.length := by
  unfold partS
  rw [List.length_take, List.length_drop]
  omega
theorem msgL_len {l : List UInt8} {t : Tr} (s : Spc) (h : okT l.length t) : (msgL l t s).length ≤ 3 * l.length + 2 := by
  obtain ⟨⟨h1, h2, h3, h4⟩, _⟩ := okT_open h
  unfold msgL
  repeat' split
  · exact someS_len3 l _ _ h1 (by omega)
  · exact someS_len3 l _ _ h1 (by omega)
  all_goals
    have := partS_le l
    exact Nat.le_trans (this _ _) (by omega)
theorem prtL_len {l : List UInt8} {t : Tr} (s : Spc) (h : okT l.length t) : (prtL l t s).length ≤ 3 * l.length + 2 := by
  unfold prtL kidL
  repeat' split
  · exact Nat.le_trans (partS_le l _ _) (by omega)
  · exact Nat.le_trans (partS_le l _ _) (by omega)
  · next k r hk => exact msgL_len s (okK_mem (okT_open h).2 k (by rw [hk]; exact List.mem_cons_self))
  · simp
  · simp
theorem allL_len {l : List UInt8} {t : Tr} (s : Spc) (h : okT l.length t) : (allL l t s).length ≤ 3 * l.length + 2 := by
  unfold allL pathL
  repeat' split
  · exact msgL_len s h
  · simp
  · next q hq => exact prtL_len s (downT_ok _ _ _ _ h hq)
  · simp
end Go.Proofs.YteallnjbpikhhaaGreatDoor

/- What the laws of layer 16 say, in plain words. No program. -/
namespace Go.Proofs.YteallnjbpikhhaaGreatDoor
open Go Go.RowKit

theorem part_two (l : List UInt8) {a b c : Nat} (h1 : a ≤ b) (h2 : b ≤ c) : partS l a b ++ partS l b c = partS l a c := by
  unfold partS
  rw [show c - a = (b - a) + (c - b) by omega, List.take_add, List.drop_drop, show a + (b - a) = b by omega]
theorem part_whole (l : List UInt8) : partS l 0 l.length = l := by simp [partS]
/-- The whole tree's places. -/
theorem tree_root (l : List UInt8) : (treeS l).hd.1 = 0 ∧ (treeS l).bd.2 = l.length ∧ (treeS l).hd.2 = (treeS l).bd.1 := by
  obtain ⟨h1, h2, h3, _⟩ := tree_Q l
  exact ⟨h2, h3, (goodT_open h1).1.1⟩

/-! One more cut does not turn what is told. -/
theorem chk_cut (p : List Int) (q : Int) (ns : List (List UInt8)) {f m : Nat} (hf : f ≤ 4294967295) (h1 : 1 ≤ m) (h2 : m ≤ 4294967295) : checkS ⟨p, q, ns, true, (f : Int), (m : Int)⟩ = checkS ⟨p, q, ns, false, 0, 0⟩ := by
  have e : cutOk ⟨p, q, ns, true, (f : Int), (m : Int)⟩ = true := by
    show (numOk 0 (f : Int) && numOk 1 (m : Int)) = true
    unfold numOk
    rw [decide_eq_true (by omega), decide_eq_true (by omega), decide_eq_true (by omega), decide_eq_true (by omega)]
    rfl
  have e2 : cutOk ⟨p, q, ns, false, 0, 0⟩ = true := rfl
  unfold checkS
  rw [e, e2]
  rfl
theorem all_cut (l : List UInt8) (t : Tr) (p : List Int) (q : Int) (ns : List (List UInt8)) {f m : Nat} (hf : f ≤ 4294967295) (h1 : 1 ≤ m) (h2 : m ≤ 4294967295) : allL l t ⟨p, q, ns, true, (f : Int), (m : Int)⟩ = allL l t ⟨p, q, ns, false, 0, 0⟩ := by
  unfold allL
  rw [chk_cut p q ns hf h1 h2]
  rfl
theorem get_cut (l : List UInt8) (t : Tr) (p : List Int) (q : Int) (ns : List (List UInt8)) {f m : Nat} (hf : f ≤ 4294967295) (h1 : 1 ≤ m) (h2 : m ≤ 4294967295) : getL l t ⟨p, q, ns, true, (f : Int), (m : Int)⟩ = cut16 (allL l t ⟨p, q, ns, false, 0, 0⟩) f m := by
  show (if true = true then cut16 (allL l t ⟨p, q, ns, true, (f : Int), (m : Int)⟩) f m else _) = _
  rw [if_pos rfl, all_cut l t p q ns hf h1 h2]
theorem get_plain (l : List UInt8) (t : Tr) (p : List Int) (q : Int) (ns : List (List UInt8)) : getL l t ⟨p, q, ns, false, 0, 0⟩ = allL l t ⟨p, q, ns, false, 0, 0⟩ := by
  unfold getL
  rw [if_neg (fun h => Bool.noConfusion h)]
theorem cut_step (x : List UInt8) {f m : Nat} (hf : f ≤ x.length) (h1 : 1 ≤ m) : x.take f ++ cut16 x f m = x.take (f + m) := by
  rw [cut16_yes (by omega), List.take_add]
  simp
theorem cut_behind (x : List UInt8) {f m : Nat} (hf : x.length < f) : cut16 x f m = [] := cut16_no (by omega)

/-! A path of one number. -/
theorem chk_one {n : Int} (h1 : 1 ≤ n) (h2 : n ≤ 4294967295) (w : Int) (hw : w = 0 ∨ w = 1 ∨ w = 4 ∨ w = 5) : checkS ⟨[n], w, [], false, 0, 0⟩ = true := by
  have e : pathOk [n] = true := by
    unfold pathOk numOk
    simp only [List.all_cons, List.all_nil, decide_eq_true h1, decide_eq_true h2]
    rfl
  have e1 : whatOk ⟨[n], w, [], false, 0, 0⟩ = true := by rcases hw with rfl | rfl | rfl | rfl <;> rfl
  unfold checkS
  rw [e1]
  show (pathOk [n] && _) = true
  rw [e]
  rfl
theorem nth_at {ts : List Tr} {i : Nat} (h : i < ts.length) : nthT ts ((i : Int) + 1) = some ts[i] := by
  unfold nthT
  rw [if_neg (by omega), show ((i : Int) + 1).toNat - 1 = i by omega, List.getElem?_eq_getElem h]
theorem nth_none {ts : List Tr} {n : Nat} (h : ts.length < n) : nthT ts (n : Int) = none := by
  unfold nthT
  rw [if_neg (by omega), List.getElem?_eq_none (by omega)]
theorem get_one (l : List UInt8) (t : Tr) {n : Int} (h1 : 1 ≤ n) (h2 : n ≤ 4294967295) (w : Int) (hw : w = 0 ∨ w = 1 ∨ w = 4 ∨ w = 5) :
    getL l t ⟨[n], w, [], false, 0, 0⟩ = match nthT (partsM t) n with | none => [] | some q => prtL l q ⟨[n], w, [], false, 0, 0⟩ := by
  rw [get_plain]
  unfold allL
  rw [chk_one h1 h2 w hw, if_pos rfl, if_neg (by simp)]
  show (match (match nthT (partsB true t) n with | none => none | some q => downT false q []) with | none => [] | some q => prtL l q _) = _
  show (match (match nthT (partsM t) n with | none => none | some q => some q) with | none => [] | some q => prtL l q _) = _
  cases nthT (partsM t) n <;> rfl
theorem get_at (l : List UInt8) (t q : Tr) {n : Int} (h1 : 1 ≤ n) (h2 : n ≤ 4294967295) (w : Int) (hw : w = 0 ∨ w = 1 ∨ w = 4 ∨ w = 5) (h : nthT (partsM t) n = some q) : getL l t ⟨[n], w, [], false, 0, 0⟩ = prtL l q ⟨[n], w, [], false, 0, 0⟩ := by
  rw [get_one l t h1 h2 w hw, h]
theorem get_no (l : List UInt8) (t : Tr) {n : Int} (h1 : 1 ≤ n) (h2 : n ≤ 4294967295) (w : Int) (hw : w = 0 ∨ w = 1 ∨ w = 4 ∨ w = 5) (h : nthT (partsM t) n = none) : getL l t ⟨[n], w, [], false, 0, 0⟩ = [] := by
  rw [get_one l t h1 h2 w hw, h]
theorem get_top (l : List UInt8) (t : Tr) (w : Int) (hw : w = 0 ∨ w = 1 ∨ w = 4) : getL l t ⟨[], w, [], false, 0, 0⟩ = if w = 4 then partS l t.bd.1 t.bd.2 else if w = 0 then partS l t.hd.1 t.bd.2 else partS l t.hd.1 t.hd.2 := by
  rcases hw with rfl | rfl | rfl <;> rfl

/-! Fields. -/
theorem begun_no58 {l : List UInt8} {x : Ln} {f : Fld} (h : begunS l x = some f) : ∀ c ∈ f.nm, c ≠ 58 := by
  unfold begunS at h
  split at h
  · obtain rfl := Option.some.inj h
    intro c hc
    have h1 : c ∈ (textOf l x).take (colI (textOf l x)) := by
      have h2 : nameS (textOf l x) <+: (textOf l x).take (colI (textOf l x)) := by
        unfold nameS Lib.trimRightS
        have h3 := List.dropWhile_suffix (p := fun b => ([32, 9] : List UInt8).contains b) (l := ((textOf l x).take (colI (textOf l x))).reverse)
        have h4 := List.reverse_prefix.2 h3
        rwa [List.reverse_reverse] at h4
      exact h2.subset hc
    obtain ⟨i, hi, rfl⟩ := List.getElem_of_mem h1
    rw [List.getElem_take]
    have hi' : i < colI (textOf l x) := by rw [List.length_take] at hi; omega
    have := List.not_of_lt_findIdx (p := (· == (58 : UInt8))) (xs := textOf l x) hi'
    simpa using this
  · cases h
theorem goL_no58 (l : List UInt8) : ∀ (ls : List Ln) (o : Option Fld), (∀ f, o = some f → ∀ c ∈ f.nm, c ≠ 58) → ∀ f ∈ goL l o ls, ∀ c ∈ f.nm, c ≠ 58
  | [], o, ho, f, hf => by
    rw [goL_nil] at hf
    cases o with
    | none => cases hf
    | some g =>
      rw [List.mem_singleton.1 hf]
      exact ho g rfl
  | x :: r, o, ho, f, hf => by
    by_cases hon : onB l x = true
    · rw [goL_on hon] at hf
      refine goL_no58 l r _ ?_ f hf
      intro g hg
      cases o with
      | none => cases hg
      | some g' =>
        obtain rfl := Option.some.inj hg
        exact ho g' rfl
    · rw [goL_off (by simpa using hon), List.mem_append] at hf
      rcases hf with hf | hf
      · cases o with
        | none => cases hf
        | some g =>
          rw [List.mem_singleton.1 hf]
          exact ho g rfl
      · exact goL_no58 l r (begunS l x) (fun g hg => begun_no58 hg) f hf
theorem fsOf_no58 (l : List UInt8) (a b : Nat) : ∀ f ∈ fsOf l a b, ∀ c ∈ f.nm, c ≠ 58 := by
  unfold fsOf
  cases (linesS l a b).take (eI (linesS l a b)) with
  | nil => intro f hf; cases hf
  | cons x r => exact goL_no58 l r (begunS l x) (fun g hg => begun_no58 hg)
def colN : ByteArray := ⟨#[58]⟩
theorem low58 {c : UInt8} (h : lowB c = 58) : c = 58 := by
  have e := lowB_toNat c
  have h2 : (lowB c).toNat = 58 := by rw [h]; rfl
  apply toNat_eq
  have h58 : (58 : UInt8).toNat = 58 := rfl
  rw [h58]
  split at e <;> omega
theorem in_colon {nm : List UInt8} (h : ∀ c ∈ nm, c ≠ 58) : inS [colN] nm = false := by
  have e : sameB nm colN.data.toList = false := by
    unfold sameB
    refine decide_eq_false fun e => ?_
    have e' : foldS nm = [58] := e
    cases nm with
    | nil => cases e'
    | cons c r =>
      have e2 : lowB c :: foldS r = [58] := e'
      have := (List.cons.inj e2).1
      exact h c List.mem_cons_self (low58 this)
  unfold inS
  simp [e]
theorem pieces_all {l : List UInt8} {fs : List Fld} (h : ∀ f ∈ fs, ∀ c ∈ f.nm, c ≠ 58) : piecesL l [colN] true fs = piecesL l [] true fs ∧ piecesL l [colN] false fs = [] := by
  unfold piecesL
  have h1 : fs.filter (keepB [colN] true) = fs.filter (keepB [] true) := List.filter_congr fun x hx => by
    unfold keepB
    rw [in_colon (h x hx)]
    rfl
  have h2 : fs.filter (keepB [colN] false) = [] := List.filter_eq_nil_iff.2 fun x hx => by
    unfold keepB
    rw [in_colon (h x hx)]
    decide
  rw [h1, h2]
  exact ⟨rfl, rfl⟩
theorem pieces_both (l : List UInt8) (ns : List ByteArray) (fs : List Fld) : (piecesL l ns false fs).length + (piecesL l ns true fs).length = (piecesL l [] true fs).length := by
  induction fs with
  | nil => rfl
  | cons x r ih =>
    have e : ∀ (m : List ByteArray) (bt : Bool), (piecesL l m bt (x :: r)).length = (if keepB m bt x = true then (fpcL l x).length else 0) + (piecesL l m bt r).length := by
      intro m bt
      rw [show x :: r = [x] ++ r from rfl, piecesL_app, List.length_append]
      congr 1
      unfold piecesL
      by_cases hk : keepB m bt x = true
      · rw [List.filter_cons_of_pos hk, if_pos hk]
        simp
      · rw [List.filter_cons_of_neg hk, if_neg hk]
        rfl
    rw [e, e, e]
    have e3 : keepB [] true x = true := rfl
    rw [if_pos e3]
    unfold keepB
    cases inS ns x.nm <;> simp <;> omega
theorem chk_names {ns : List (List UInt8)} (w : Int) (hw : w = 2 ∨ w = 3) (h : namesOk ns = true) : checkS ⟨[], w, ns, false, 0, 0⟩ = true := by
  have e1 : whatOk ⟨[], w, ns, false, 0, 0⟩ = namesOk ns := by rcases hw with rfl | rfl <;> rfl
  unfold checkS
  rw [e1, h]
  rfl
theorem get_names (l : List UInt8) (t : Tr) {ns : List (List UInt8)} (w : Int) (hw : w = 2 ∨ w = 3) (h : namesOk ns = true) : getL l t ⟨[], w, ns, false, 0, 0⟩ = someS l (fsOf l t.hd.1 t.hd.2) (bsL ns) (decide (w = 3)) := by
  rw [get_plain]
  unfold allL
  rw [chk_names w hw h, if_pos rfl, if_pos rfl]
  rcases hw with rfl | rfl <;> rfl
/-- Some fields and the others are all. -/
theorem fields_law (l : List UInt8) (t : Tr) {ns : List (List UInt8)} (h : namesOk ns = true) :
    (getL l t ⟨[], 2, ns, false, 0, 0⟩).length + (getL l t ⟨[], 3, ns, false, 0, 0⟩).length = (getL l t ⟨[], 3, [[58]], false, 0, 0⟩).length + 2 ∧ getL l t ⟨[], 2, [[58]], false, 0, 0⟩ = [13, 10] := by
  have hc : namesOk [[58]] = true := by decide
  rw [get_names l t 2 (.inl rfl) h, get_names l t 3 (.inr rfl) h, get_names l t 3 (.inr rfl) hc, get_names l t 2 (.inl rfl) hc]
  have hp := pieces_all (l := l) (fsOf_no58 l t.hd.1 t.hd.2)
  have hb := pieces_both l (bsL ns) (fsOf l t.hd.1 t.hd.2)
  have e : bsL [[58]] = [colN] := rfl
  have d2 : decide ((2 : Int) = 3) = false := by decide
  have d3 : decide ((3 : Int) = 3) = true := by decide
  rw [e, d2, d3]
  unfold someS
  rw [hp.1, hp.2]
  refine ⟨?_, rfl⟩
  simp only [List.length_append, List.length_cons, List.length_nil]
  omega
end Go.Proofs.YteallnjbpikhhaaGreatDoor
