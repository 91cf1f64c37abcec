/- Contracts of package addr: addresses as a text. -/
import Derived.Test.YtjlcphofkepajaaGreatAdQ
import Derived.Test.YtjlcphofkepajaaGreatParE
import Derived.Test.YtjlcphofkepajaaGreatShelf3
namespace Go.Proofs.YtjlcphofkepajaaGreat
open Go Go.RowKit

/-- An address, of whatever kind. -/
structure Adx where
  kind : Int
  name : List UInt8
  loc : List UInt8
  host : List UInt8
def boxL (n lo h : List UInt8) : List UInt8 := (if n = [] then [] else quoteL n ++ [32]) ++ [60] ++ quoteL lo ++ (if h = [] then [] else 64 :: h) ++ [62]
def itemX (a : Adx) : List UInt8 := if a.kind = 0 then boxL a.name a.loc a.host else if a.kind = 1 then quoteL a.name ++ [58] else if a.kind = 2 then [59] else []
def sepL : Option Int → Int → List UInt8
  | none, _ => []
  | some p, k => if p ≠ 1 ∧ k ≠ 2 then [44, 32] else []
def textA : Option Int → List Adx → List UInt8
  | _, [] => []
  | p, a :: l => sepL p a.kind ++ itemX a ++ textA (some a.kind) l
def lastK : Option Int → List Adx → Option Int
  | p, [] => p
  | _, a :: l => lastK (some a.kind) l
theorem textA_snoc (a : Adx) : ∀ (xs : List Adx) (p : Option Int), textA p (xs ++ [a]) = textA p xs ++ (sepL (lastK p xs) a.kind ++ itemX a)
  | [], p => by simp [textA, lastK]
  | x :: xs, p => by
    show sepL p x.kind ++ itemX x ++ textA (some x.kind) (xs ++ [a]) = _
    rw [textA_snoc a xs]
    simp [textA, lastK]
theorem lastK_snoc (a : Adx) : ∀ (xs : List Adx) (p : Option Int), lastK p (xs ++ [a]) = some a.kind
  | [], _ => rfl
  | _ :: xs, _ => lastK_snoc a xs _
theorem textA_step (l : List Adx) (i : Nat) (h : i < l.length) : textA none (l.take (i + 1)) = textA none (l.take i) ++ (sepL (lastK none (l.take i)) l[i].kind ++ itemX l[i]) := by
  rw [List.take_succ_eq_append_getElem h, textA_snoc]
theorem lastK_at (l : List Adx) (i : Nat) (h : i < l.length) : lastK none (l.take (i + 1)) = some l[i].kind := by
  rw [List.take_succ_eq_append_getElem h, lastK_snoc]
theorem quoteL_len (l : List UInt8) : (quoteL l).length ≤ 2 * l.length + 2 := by
  have h1 := escL_len l
  have h2 := List.countP_le_length (p := hitB) (l := l)
  unfold quoteL
  simp only [List.length_append, List.length_cons, List.length_nil]
  omega
theorem boxL_len (n lo h : List UInt8) : (boxL n lo h).length ≤ 2 * n.length + 2 * lo.length + h.length + 20 := by
  have h1 := quoteL_len n
  have h2 := quoteL_len lo
  unfold boxL
  split <;> split <;> simp only [List.length_append, List.length_cons, List.length_nil] <;> omega
theorem itemX_len (a : Adx) : (itemX a).length ≤ 2 * a.name.length + 2 * a.loc.length + a.host.length + 20 := by
  have h1 := quoteL_len a.name
  have h2 := boxL_len a.name a.loc a.host
  unfold itemX
  split
  · omega
  · split
    · simp only [List.length_append, List.length_cons, List.length_nil]; omega
    · split <;> simp <;> omega
theorem sepL_len (p : Option Int) (k : Int) : (sepL p k).length ≤ 2 := by
  cases p with
  | none => exact Nat.zero_le _
  | some p => by_cases h : p ≠ 1 ∧ k ≠ 2 <;> simp [sepL, h]

theorem nil_bools (A : ByteArray) (h : A.data.toList = []) : A.toList.isEmpty = true ∧ (A.toList == []) = true ∧ (A.toList != []) = false := by
  have e : A.toList = [] := by
    have hs : A.size = 0 := by rw [← len_toList, h]; rfl
    exact (toList_nil_iff A).2 hs
  rw [e]
  exact ⟨rfl, rfl, rfl⟩
theorem cons_bools (A : ByteArray) (h : A.data.toList ≠ []) : A.toList.isEmpty = false ∧ (A.toList == []) = false ∧ (A.toList != []) = true := by
  have e : A.toList ≠ [] := by
    intro e
    have hs : A.size = 0 := (toList_nil_iff A).1 e
    exact h (List.eq_nil_of_length_eq_zero (by rw [len_toList]; exact hs))
  refine ⟨by simpa using e, by simpa using e, by simpa using e⟩

set_option maxRecDepth 100000 in
set_option maxHeartbeats 2000000 in
theorem boxText_any (k : Int) (N L H : ByteArray) (w : World) (hN : N.size ≤ 100000000) (hL : L.size ≤ 100000000) (hH : H.size ≤ 100000000) :
    Calls Tryz.prog 18 #[.agg #[.int .i64 k, .string N, .string L, .string H]] w fun e w' => e = .returned (.string ⟨(boxL N.data.toList L.data.toList H.data.toList).toArray⟩) ∧ Below w.heap.size w w' := by
  have HQN := Lib.hid (fun W => quoted_any N W (by omega))
  have HQL := Lib.hid (fun W => quoted_any L W (by omega))
  obtain ⟨QN, hQN⟩ : ∃ Q : ByteArray, Q = ⟨(quoteL N.data.toList).toArray⟩ := ⟨_, rfl⟩
  obtain ⟨QL, hQL⟩ : ∃ Q : ByteArray, Q = ⟨(quoteL L.data.toList).toArray⟩ := ⟨_, rfl⟩
  have sQN : QN.size ≤ 300000000 := by
    have h := quoteL_len N.data.toList
    rw [len_toList] at h
    rw [hQN]
    show (quoteL N.data.toList).length ≤ _
    omega
  have sQL : QL.size ≤ 300000000 := by
    have h := quoteL_len L.data.toList
    rw [len_toList] at h
    rw [hQL]
    show (quoteL L.data.toList).length ≤ _
    omega
  rw [← hQN] at HQN
  rw [← hQL] at HQL
  have eQN : Hid (QN.data.toList = quoteL N.data.toList) := by unfold Hid; rw [hQN]
  have eQL : Hid (QL.data.toList = quoteL L.data.toList) := by unfold Hid; rw [hQL]
  have HB0 : Hid (Below w.heap.size w (w.alloc (.cells #[.int .i64 k, .string N, .string L, .string H] 26))) := (Below.refl _ _).alloc (Nat.le_refl _) _
  have HC0 : Hid ((w.alloc (.cells #[.int .i64 k, .string N, .string L, .string H] 26)).heap[w.heap.size]? = some (.cells #[.int .i64 k, .string N, .string L, .string H] 26 (0, 0))) := heap_alloc_new w _
  clear hQN hQL
  by_cases hn : N.data.toList = []
  · obtain ⟨n1, n2, n3⟩ := nil_bools N hn
    have HE1 : Hid ((if N.data.toList = [] then [] else quoteL N.data.toList ++ [32]) = ([] : List UInt8)) := if_pos hn
    clear hn
    by_cases hh : H.data.toList = []
    · obtain ⟨h1, h2, h3⟩ := nil_bools H hh
      have HE2 : Hid ((if H.data.toList = [] then [] else 64 :: H.data.toList) = ([] : List UInt8)) := if_pos hh
      clear hh
      go_enter Tryz.func18, Tryz.ntmps18
      go_wp2_with fail
      with_reducible refine (HQL.out _).mono ?_
      rintro e w1 ⟨rfl, hb1⟩
      have HB1 := Lib.hid (HB0.out.trans (hb1.mono HB0.out.size))
      clear hb1
      go_wp2_with fail
      go_ret
      refine ⟨ret_str (bytes_eq ?_), HB1.out⟩
      simp only [cat_toList, eQL.out, boxL, HE1.out, HE2.out]
    · obtain ⟨h1, h2, h3⟩ := cons_bools H hh
      have HE2 : Hid ((if H.data.toList = [] then [] else 64 :: H.data.toList) = 64 :: H.data.toList) := if_neg hh
      clear hh
      go_enter Tryz.func18, Tryz.ntmps18
      go_wp2_with fail
      with_reducible refine (HQL.out _).mono ?_
      rintro e w1 ⟨rfl, hb1⟩
      have HB1 := Lib.hid (HB0.out.trans (hb1.mono HB0.out.size))
      clear hb1
      go_wp2_with fail
      go_ret
      refine ⟨ret_str (bytes_eq ?_), HB1.out⟩
      simp only [cat_toList, eQL.out, boxL, HE1.out, HE2.out]
      rfl
  · obtain ⟨n1, n2, n3⟩ := cons_bools N hn
    have HE1 : Hid ((if N.data.toList = [] then [] else quoteL N.data.toList ++ [32]) = quoteL N.data.toList ++ [32]) := if_neg hn
    clear hn
    by_cases hh : H.data.toList = []
    · obtain ⟨h1, h2, h3⟩ := nil_bools H hh
      have HE2 : Hid ((if H.data.toList = [] then [] else 64 :: H.data.toList) = ([] : List UInt8)) := if_pos hh
      clear hh
      go_enter Tryz.func18, Tryz.ntmps18
      go_wp2_with fail
      with_reducible refine (HQN.out _).mono ?_
      rintro e w1 ⟨rfl, hb1⟩
      have HB1 := Lib.hid (HB0.out.trans (hb1.mono HB0.out.size))
      have hc1 := (hb1.block w.heap.size (by simp)).trans HC0.out
      have d2 : w1.cell? ⟨w.heap.size, 2, none⟩ = some (.string L) := by simp [World.cell?, hc1]
      have d3 : w1.cell? ⟨w.heap.size, 3, none⟩ = some (.string H) := by simp [World.cell?, hc1]
      clear hb1 hc1
      go_wp2_with fail
      with_reducible refine (HQL.out _).mono ?_
      rintro e w2 ⟨rfl, hb2⟩
      have HB2 := Lib.hid (HB1.out.trans (hb2.mono HB1.out.size))
      clear hb2
      go_wp2_with fail
      go_ret
      refine ⟨ret_str (bytes_eq ?_), HB2.out⟩
      simp only [cat_toList, eQL.out, eQN.out, boxL, HE1.out, HE2.out]
    · obtain ⟨h1, h2, h3⟩ := cons_bools H hh
      have HE2 : Hid ((if H.data.toList = [] then [] else 64 :: H.data.toList) = 64 :: H.data.toList) := if_neg hh
      clear hh
      go_enter Tryz.func18, Tryz.ntmps18
      go_wp2_with fail
      with_reducible refine (HQN.out _).mono ?_
      rintro e w1 ⟨rfl, hb1⟩
      have HB1 := Lib.hid (HB0.out.trans (hb1.mono HB0.out.size))
      have hc1 := (hb1.block w.heap.size (by simp)).trans HC0.out
      have d2 : w1.cell? ⟨w.heap.size, 2, none⟩ = some (.string L) := by simp [World.cell?, hc1]
      have d3 : w1.cell? ⟨w.heap.size, 3, none⟩ = some (.string H) := by simp [World.cell?, hc1]
      clear hb1 hc1
      go_wp2_with fail
      with_reducible refine (HQL.out _).mono ?_
      rintro e w2 ⟨rfl, hb2⟩
      have HB2 := Lib.hid (HB1.out.trans (hb2.mono HB1.out.size))
      clear hb2
      go_wp2_with fail
      go_ret
      refine ⟨ret_str (bytes_eq ?_), HB2.out⟩
      simp only [cat_toList, eQL.out, eQN.out, boxL, HE1.out, HE2.out]
      rfl
end Go.Proofs.YtjlcphofkepajaaGreat
