/- FetchPieces: whether a spec is short; a box that is written apart from all else. -/
import Derived.Test.YtahmhakdpmcdoaaGreatDoorGbFeK
namespace Go.Proofs.YtahmhakdpmcdoaaGreatDoor
open Go Go.RowKit

def sumN (l : List (List UInt8)) : Nat := (l.map List.length).sum
theorem sumN_take (l : List (List UInt8)) (i : Nat) (h : i < l.length) : sumN (l.take (i + 1)) = sumN (l.take i) + l[i].length := by
  have e : ∀ (a b : List (List UInt8)), sumN (a ++ b) = sumN a + sumN b := by
    intro a b
    induction a with
    | nil => simp [sumN]
    | cons x a ih =>
      simp only [sumN, List.cons_append, List.map_cons, List.sum_cons] at ih ⊢
      omega
  rw [List.take_succ_eq_append_getElem h, e]
  simp [sumN]
theorem sumN_le (m : Nat) : ∀ l : List (List UInt8), (∀ a ∈ l, a.length ≤ m) → sumN l ≤ l.length * m
  | [], _ => by simp [sumN]
  | a :: l, h => by
    have h1 := h a (List.mem_cons_self ..)
    have h2 := sumN_le m l (fun x hx => h x (List.mem_cons_of_mem _ hx))
    have e : sumN (a :: l) = a.length + sumN l := by simp [sumN]
    have e2 : (a :: l).length * m = l.length * m + m := by rw [List.length_cons, Nat.add_mul, Nat.one_mul]
    omega
theorem mem_sumN : ∀ (l : List (List UInt8)), ∀ a ∈ l, a.length ≤ sumN l
  | b :: l, a, h => by
    have e : sumN (b :: l) = b.length + sumN l := by simp [sumN]
    rcases List.mem_cons.1 h with rfl | h
    · omega
    · have := mem_sumN l a h
      omega
/-- All that lay lies as it lay, but for one block. -/
structure Kx (S : Nat) (a b : World) : Prop where
  size : a.heap.size ≤ b.heap.size
  block : ∀ k, k ≠ S → k < a.heap.size → b.heap[k]? = a.heap[k]?
theorem Kx.refl (S : Nat) (a : World) : Kx S a a := ⟨Nat.le_refl _, fun _ _ _ => rfl⟩
theorem Kx.below {S : Nat} {a b c : World} (h : Kx S a b) (hb : Below b.heap.size b c) : Kx S a c :=
  ⟨Nat.le_trans h.size hb.size, fun k h1 h2 => (hb.block k (Nat.lt_of_lt_of_le h2 h.size)).trans (h.block k h1 h2)⟩
theorem Kx.set {S : Nat} {a b : World} (h : Kx S a b) (j : Nat) (u : Value) : Kx S a (b.setCell ⟨S, j, none⟩ u) :=
  ⟨by rw [size_set]; exact h.size, fun k h1 h2 => (Below.heap_setCell b ⟨S, j, none⟩ u k h1).trans (h.block k h1 h2)⟩
theorem Kx.trans {S : Nat} {a b c : World} (h : Kx S a b) (k : Kx S b c) : Kx S a c :=
  ⟨Nat.le_trans h.size k.size, fun q h1 h2 => (k.block q h1 (Nat.lt_of_lt_of_le h2 h.size)).trans (h.block q h1 h2)⟩
theorem Kx.tree {S P : Nat} {a b : World} {t : Tr} {u : Value} (h : Kx S a b) (hS : S < P) (ht : treeAt (fun k => P ≤ k) a t u) : tAt b t u :=
  treeAt.keep (fun q (hq : P ≤ q) hl => ⟨h.block q (by omega) hl, trivial⟩) _ _ ht
/-- Bytes are not in the box of a spec. -/
theorem Kx.bytes {S : Nat} {a b : World} {u : Value} {l : List UInt8} {p n : Option Addr} {pn pc nn nc : Nat} {q x y : Int} {c : Bool} (h : Kx S a b) (hx : Box a S (.slice p pn pc) q (.slice n nn nc) c x y) (hu : bytesArg a u l) : bytesArg b u l := by
  obtain ⟨ao, cap, rfl, h1, h2, h3⟩ := hu
  refine ⟨ao, cap, rfl, h1, h2, ?_⟩
  rcases h3 with h3 | ⟨b0, off, e, hlt, hc⟩
  · exact .inl h3
  · cases l with
    | nil => exact .inl rfl
    | cons z r =>
      have hne : b0 ≠ S := by
        rintro rfl
        have h0 := hc 0 (by simp)
        unfold Box at hx
        simp only [World.cell?, hx, Nat.add_zero] at h0
        match off, h0 with
        | 0, h0 => simp [byteV] at h0
        | 1, h0 => simp [byteV] at h0
        | 2, h0 => simp [byteV] at h0
        | 3, h0 => simp [byteV] at h0
        | 4, h0 => simp [byteV] at h0
        | 5, h0 => simp [byteV] at h0
        | off + 6, h0 => simp at h0
      have hb := h.block b0 hne hlt
      exact .inr ⟨b0, off, e, Nat.lt_of_lt_of_le hlt h.size, fun j hj => (World.cell?_of_block (a := ⟨b0, off + j, none⟩) hb).trans (hc j hj)⟩
theorem spF_set {W : World} {p : List Int} {q x y x' y' : Int} {ns : List (List UInt8)} {c c' : Bool} {a1 a2 : Option Addr} {c1 c2 : Nat} (h : SpF W ⟨p, q, ns, c, x, y⟩ a1 a2 c1 c2) : SpF W ⟨p, q, ns, c', x', y'⟩ a1 a2 c1 c2 :=
  ⟨⟨h.sp.rp, h.sp.rn, h.sp.hn⟩, h.sn⟩
def finePost (p : List Int) (ns : List (List UInt8)) (w : World) (e : Ending) (w' : World) : Prop := ∃ z, e = .returned (.bool z) ∧ (z = true → p.length ≤ 70 ∧ ns.length ≤ 110 ∧ sumN ns ≤ 400) ∧ Below w.heap.size w w'
set_option maxRecDepth 100000 in
set_option maxHeartbeats 4000000 in
theorem fine_any (s : Spc) (a1 a2 : Option Addr) (c1 c2 : Nat) (w : World) (hn : strsArg w (.slice a2 s.names.length c2) (bsL s.names)) (hl : ∀ a ∈ s.names, a.length ≤ 140737488355328) (hpl : s.path.length ≤ 9223372036854775807) (hnl : s.names.length ≤ 9223372036854775807) :
    Calls Tryz.prog 8 #[spV s a1 a2 c1 c2] w (finePost s.path s.names w) := by
  have hat := hn
  obtain ⟨_, _, e, -, -, hat⟩ := hat.at
  obtain ⟨rfl, -, rfl⟩ := Value.slice.inj e
  have HAt := Lib.hid hat
  have HL := Lib.hid hl
  obtain ⟨p, q, ns, ct, x, y⟩ := s
  simp only at HAt HL hpl hnl ⊢
  unfold spV
  simp only
  obtain ⟨X, hX⟩ : ∃ X, X = w.alloc (.cells #[.slice a1 p.length c1, .int .i64 q, .slice a2 ns.length c2, .bool ct, .int .i64 x, .int .i64 y] 26) := ⟨_, rfl⟩
  have hbX : Below w.heap.size w X := by rw [hX]; exact (Below.refl _ _).alloc (Nat.le_refl _) _
  have p1 : X.heap[w.heap.size]? = some (.cells #[.slice a1 p.length c1, .int .i64 q, .slice a2 ns.length c2, .bool ct, .int .i64 x, .int .i64 y] 26 (0, 0)) := by rw [hX]; exact heap_alloc_new w _
  obtain ⟨k0, k1, k2, k3, k4, k5⟩ := sp_cells p1
  have HBX := Lib.hid hbX
  have HXe := Lib.hid hX.symm
  clear hX hbX p1 hat hn hl e
  go_enter Tryz.func8, Tryz.ntmps8
  go_upto_region 1 with fail
  rw [HXe.out]
  go_wp2_with fail
  go_loopg [3, 4] ns.length (fun qq mv xi wr => ∃ (i : Nat) (m : Int), i ≤ ns.length ∧ qq = ns.length - i ∧ xi = .int .i64 (i : Int) ∧ mv = .int .i64 m ∧ Hid (ns.length ≤ 110 → m = ((sumN (ns.take i) : Nat) : Int)) ∧ X = wr)
  case atStart => exact ⟨0, 0, by omega, by omega, rfl, rfl, (fun _ => by simp [sumN]), rfl⟩
  case round =>
    obtain ⟨i, m, hi, rfl, rfl, rfl, HM, rfl⟩ := hrel
    by_cases hlt : i < ns.length
    · obtain ⟨b, off, rfl, hb, hc, hsz⟩ := HAt.out i (by unfold bsL; simpa using hlt)
      obtain ⟨u, hu⟩ : ∃ u, u = ns[i] := ⟨_, rfl⟩
      have hul := HL.out _ (List.getElem_mem hlt)
      rw [← hu] at hul
      obtain ⟨U, hU⟩ : ∃ U : ByteArray, U = ⟨u.toArray⟩ := ⟨_, rfl⟩
      have hc' : X.cell? ⟨b, off + i, none⟩ = some (.string U) := by
        refine (HBX.out.cell (p := ⟨b, off + i, none⟩) hb).trans ?_
        rw [hc, hU, hu]
        simp [bsL]
      have hUs : U.size = u.length := by rw [hU]; exact List.size_toArray
      have hd : (i : Int) < (ns.length : Int) := by omega
      have HS : Hid (sumN (ns.take (i + 1)) = sumN (ns.take i) + U.size) := by unfold Hid; rw [sumN_take _ _ hlt, ← hu, hUs]
      have hsl := sumN_le 140737488355328 (ns.take i) (fun a ha => HL.out a (List.mem_of_mem_take ha))
      rw [List.length_take] at hsl
      have hUl : U.size ≤ 140737488355328 := by omega
      clear hc hU hu hul hUs hsz
      by_cases h110 : ns.length ≤ 110
      · obtain ⟨t, ht⟩ : ∃ t, t = sumN (ns.take i) := ⟨_, rfl⟩
        obtain rfl : m = (t : Int) := by rw [HM.out h110, ht]
        have htl : t ≤ 110 * 140737488355328 := by
          have : min i ns.length * 140737488355328 ≤ 110 * 140737488355328 := Nat.mul_le_mul_right _ (by omega)
          omega
        have HT : Hid (((sumN (ns.take (i + 1)) : Nat) : Int) = (t : Int) + (U.size : Int)) := by unfold Hid; rw [HS.out, ← ht]; omega
        clear ht hsl HS
        go_wp2_with fail
        go_roundg (ns.length - (i + 1))
        case measure => omega
        case rel => exact ⟨i + 1, _, by omega, rfl, by go_num, rfl, fun _ => HT.out.symm, rfl⟩
      · clear hsl HS
        go_wp2_with fail
        go_roundg (ns.length - (i + 1))
        case measure => omega
        case rel => exact ⟨i + 1, _, by omega, rfl, by go_num, rfl, (fun h => (h110 h).elim), rfl⟩
    · obtain rfl : i = ns.length := by omega
      by_cases h70 : (p.length : Int) ≤ 70
      · have d70 : decide ((p.length : Int) ≤ 70) = true := decide_eq_true h70
        by_cases h110 : (ns.length : Int) ≤ 110
        · have d110 : decide ((ns.length : Int) ≤ 110) = true := decide_eq_true h110
          have HMe := Lib.hid (HM.out (by omega))
          by_cases h400 : m ≤ 400
          · have d400 : decide (m ≤ 400) = true := decide_eq_true h400
            go_wp2_with fail
            go_ret
            refine ⟨true, ret_bool (by simp), fun _ => ⟨by omega, by omega, ?_⟩, HBX.out⟩
            have := HMe.out
            rw [List.take_length] at this
            omega
          · have d400 : decide (m ≤ 400) = false := decide_eq_false h400
            go_wp2_with fail
            go_ret
            exact ⟨false, ret_bool (by simp), (fun h => Bool.noConfusion h), HBX.out⟩
        · have d110 : decide ((ns.length : Int) ≤ 110) = false := decide_eq_false h110
          go_wp2_with fail
          go_ret
          exact ⟨false, ret_bool (by simp), (fun h => Bool.noConfusion h), HBX.out⟩
      · have d70 : decide ((p.length : Int) ≤ 70) = false := decide_eq_false h70
        go_wp2_with fail
        go_ret
        exact ⟨false, ret_bool (by simp), (fun h => Bool.noConfusion h), HBX.out⟩
end Go.Proofs.YtahmhakdpmcdoaaGreatDoor
