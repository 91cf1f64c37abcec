/- Contracts of package date: numbers that are filled up, and pairs of digits. -/
import Derived.Test.YtpmjlhpbknppiaaDoorDtL
import Derived.LoopN
namespace Go.Proofs.YtpmjlhpbknppiaaDoor
open Go Go.RowKit

def filL (b : UInt8) (long n : Nat) : List UInt8 := List.replicate (long - (Lib.decDigits n).length) b ++ Lib.decDigits n
theorem repeat_one (b : UInt8) : ∀ c, Lib.repeatL [b] c = List.replicate c b
  | 0 => rfl
  | c + 1 => by
    rw [Lib.repeatL, repeat_one b c, List.replicate_succ]
    rfl
theorem itoa_nat (n : Nat) : Lib.itoa (n : Int) = Lib.decDigits n := by
  unfold Lib.itoa
  rw [if_neg (by omega)]
  rfl
set_option maxRecDepth 100000 in
set_option maxHeartbeats 1000000 in
theorem filled_any (b : UInt8) (long n : Nat) (hl : long ≤ 9) (hn : n ≤ 1000000) (w : World) (hT : tab w) :
    Calls Tryd.prog 38 #[.string ⟨#[b]⟩, .int .i64 (long : Int), .int .i64 (n : Int)] w fun e w' => e = .returned (.string ⟨(filL b long n).toArray⟩) ∧ Below w.heap.size w w' := by
  have HDg := Lib.hid (fun w h => digits_any (n : Int) (by omega) (by omega) w h)
  have hd := itoa_nat n
  rw [hd] at HDg
  have hlen : (Lib.decDigits n).length ≤ 20 := by rw [Lib.decDigits_length]; exact Lib.nDigits_le20 _ (by omega)
  obtain ⟨T, hTe⟩ : ∃ T : ByteArray, T = ⟨(Lib.decDigits n).toArray⟩ := ⟨_, rfl⟩
  have hTl : T.data.toList = Lib.decDigits n := by rw [hTe]
  have hTs : T.size ≤ 20 := by rw [← len_toList, hTl]; exact hlen
  rw [← hTe] at HDg
  have HT := Lib.hid hT
  obtain ⟨c, hc⟩ : ∃ c, c = long - T.size := ⟨_, rfl⟩
  have HR : Hid (ByteArray.mk (Lib.repeatL [b] c).toArray ++ T = ⟨(filL b long n).toArray⟩) := by
    unfold Hid
    apply bytes_eq
    rw [cat_toList, hTl]
    show (Lib.repeatL [b] c) ++ _ = filL b long n
    unfold filL
    rw [repeat_one, hc, ← len_toList, hTl]
  have HRp := Lib.hid (fun w => Tryd.strings_Repeat ⟨#[b]⟩ c w (by omega) (by show 1 * c ≤ _; omega))
  have e1 : (⟨#[b]⟩ : ByteArray).data.toList = [b] := rfl
  rw [e1] at HRp
  obtain ⟨U, hU⟩ : ∃ U : ByteArray, U = ⟨(Lib.repeatL [b] c).toArray⟩ := ⟨_, rfl⟩
  have hUs : U.size ≤ 9 := by
    rw [← len_toList, hU]
    show (Lib.repeatL [b] c).length ≤ 9
    rw [repeat_one, List.length_replicate]
    omega
  rw [← hU] at HRp HR
  have HU := Lib.hid hU
  clear hd hlen hTe hTl hU hT e1
  have hcat : (U ++ T).size ≤ 100 := by rw [ByteArray.size_append]; omega
  by_cases hlt : T.size < long
  · have hcI : (long : Int) - (T.size : Int) = (c : Int) := by omega
    have hc0 : 0 < c := by omega
    clear hc
    go_enter Tryd.func38, Tryd.ntmps38
    go_wp2_with fail
    with_reducible refine (HDg.out _ HT.out).mono ?_
    rintro e w1 ⟨rfl, hb1⟩
    go_wp2_with fail
    with_reducible refine (HRp.out _).mono ?_
    rintro e w2 ⟨rfl, hb2⟩
    go_wp2_with fail
    go_ret
    exact ⟨ret_str HR.out, hb1.trans (hb2.mono hb1.size)⟩
  · have hc0 : c = 0 := by omega
    subst hc0
    have hle : (long : Int) ≤ (T.size : Int) := by omega
    have hmax : max 0 ((long : Int) - (T.size : Int)) = 0 := by omega
    have HRz := Lib.hid (fun w => Tryd.strings_Repeat_zero ⟨#[b]⟩ w)
    obtain rfl : U = ⟨#[]⟩ := HU.out
    clear hc HRp
    go_enter Tryd.func38, Tryd.ntmps38
    go_wp2_with fail
    with_reducible refine (HDg.out _ HT.out).mono ?_
    rintro e w1 ⟨rfl, hb1⟩
    go_wp2_with fail
    try rw [hmax]
    with_reducible refine (HRz.out _).mono ?_
    rintro e w2 ⟨rfl, rfl⟩
    go_wp2_with fail
    go_ret
    exact ⟨ret_str HR.out, hb1⟩

theorem filled_lit (b : UInt8) (long : Nat) (L : Int) (hL : (long : Int) = L) (n : Nat) (hl : long ≤ 9) (hn : n ≤ 1000000) (w : World) (hT : tab w) :
    Calls Tryd.prog 38 #[.string ⟨#[b]⟩, .int .i64 L, .int .i64 (n : Int)] w fun e w' => e = .returned (.string ⟨(filL b long n).toArray⟩) ∧ Below w.heap.size w w' := by
  subst hL
  exact filled_any b long n hl hn w hT
/-- A row of three texts, and of two. -/
theorem set_of2_0 {W : World} {B : Nat} {x0 x1 u : Value} {t : TypeId} (h : W.heap[B]? = some (.cells #[x0, x1] t (0, 0))) : (W.setCell ⟨B, 0, none⟩ u).heap[B]? = some (.cells #[u, x1] t (0, 0)) := by
  simp [World.setCell, Array.getElem?_modify, h]
theorem set_of2_1 {W : World} {B : Nat} {x0 x1 u : Value} {t : TypeId} (h : W.heap[B]? = some (.cells #[x0, x1] t (0, 0))) : (W.setCell ⟨B, 1, none⟩ u).heap[B]? = some (.cells #[x0, u] t (0, 0)) := by
  simp [World.setCell, Array.getElem?_modify, h]
theorem set_at0 {W : World} {B : Nat} {x0 x1 x2 u : Value} {t : TypeId} (h : W.heap[B]? = some (.cells #[x0, x1, x2] t (0, 0))) : (W.setCell ⟨B, 0, none⟩ u).heap[B]? = some (.cells #[u, x1, x2] t (0, 0)) := by
  simp [World.setCell, Array.getElem?_modify, h]
theorem set_at1 {W : World} {B : Nat} {x0 x1 x2 u : Value} {t : TypeId} (h : W.heap[B]? = some (.cells #[x0, x1, x2] t (0, 0))) : (W.setCell ⟨B, 1, none⟩ u).heap[B]? = some (.cells #[x0, u, x2] t (0, 0)) := by
  simp [World.setCell, Array.getElem?_modify, h]
theorem set_at2 {W : World} {B : Nat} {x0 x1 x2 u : Value} {t : TypeId} (h : W.heap[B]? = some (.cells #[x0, x1, x2] t (0, 0))) : (W.setCell ⟨B, 2, none⟩ u).heap[B]? = some (.cells #[x0, x1, u] t (0, 0)) := by
  simp [World.setCell, Array.getElem?_modify, h]
theorem filL_len (b : UInt8) (long n : Nat) (hl : long ≤ 9) (hn : n ≤ 1000000) : (filL b long n).length ≤ 29 := by
  unfold filL
  have hlen : (Lib.decDigits n).length ≤ 20 := by rw [Lib.decDigits_length]; exact Lib.nDigits_le20 _ (by omega)
  rw [List.length_append, List.length_replicate]
  omega
def Ints (W : World) (v : Value) (ns : List Nat) : Prop := ∃ B cap, v = .slice (some ⟨B, 0, none⟩) ns.length cap ∧ ns.length ≤ cap ∧ cap ≤ 1000000 ∧ B < W.heap.size ∧ ∀ i, (h : i < ns.length) → W.cell? ⟨B, i, none⟩ = some (.int .i64 (ns[i] : Int))
theorem Ints.below {W W' : World} {v : Value} {ns : List Nat} (h : Ints W v ns) (hb : Below W.heap.size W W') : Ints W' v ns := by
  obtain ⟨B, cap, e, h1, h2, h3, h4⟩ := h
  exact ⟨B, cap, e, h1, h2, Nat.lt_of_lt_of_le h3 hb.size, fun i hi => (hb.cell (p := ⟨B, i, none⟩) h3).trans (h4 i hi)⟩
theorem strs3 (W : World) : (Instr.makeSlice 35 (.int .i64 3) (.int .i64 3)).run Tryd.prog W = .ok (.slice (some ⟨W.heap.size, 0, none⟩) 3 3) (W.alloc (.cells #[.string ⟨#[]⟩, .string ⟨#[]⟩, .string ⟨#[]⟩] 9)) := by kernel_rfl
theorem strs2 (W : World) : (Instr.makeSlice 35 (.int .i64 2) (.int .i64 2)).run Tryd.prog W = .ok (.slice (some ⟨W.heap.size, 0, none⟩) 2 2) (W.alloc (.cells #[.string ⟨#[]⟩, .string ⟨#[]⟩] 9)) := by kernel_rfl
set_option maxRecDepth 100000 in
set_option maxHeartbeats 2000000 in
theorem pairs3_any (sep : ByteArray) (hsp : sep.size ≤ 9) (a b c : Nat) (ha : a ≤ 1000000) (hb : b ≤ 1000000) (hc : c ≤ 1000000) (v : Value) (w : World) (hv : Ints w v [a, b, c]) (hT : tab w) :
    Calls Tryd.prog 39 #[.string sep, v] w fun e w' => e = .returned (.string ⟨(Lib.join [filL 48 2 a, filL 48 2 b, filL 48 2 c] sep.data.toList).toArray⟩) ∧ Below w.heap.size w w' := by
  have HFa := Lib.hid (fun w h => filled_lit 48 2 2 rfl a (by omega) ha w h)
  have HFb := Lib.hid (fun w h => filled_lit 48 2 2 rfl b (by omega) hb w h)
  have HFc := Lib.hid (fun w h => filled_lit 48 2 2 rfl c (by omega) hc w h)
  obtain ⟨B, cap, rfl, h1, h2, h3, h4⟩ := hv
  have c0 : w.cell? ⟨B, 0, none⟩ = some (.int .i64 (a : Int)) := h4 0 (by simp)
  have c1 : w.cell? ⟨B, 1, none⟩ = some (.int .i64 (b : Int)) := h4 1 (by simp)
  have c2 : w.cell? ⟨B, 2, none⟩ = some (.int .i64 (c : Int)) := h4 2 (by simp)
  have hcap : 3 ≤ cap := h1
  have e3 : [a, b, c].length = 3 := rfl
  rw [e3]
  have HT := Lib.hid hT
  have La := filL_len 48 2 a (by omega) ha
  have Lb := filL_len 48 2 b (by omega) hb
  have Lc := filL_len 48 2 c (by omega) hc
  obtain ⟨Ta, hAa⟩ : ∃ A : ByteArray, A = ⟨(filL 48 2 a).toArray⟩ := ⟨_, rfl⟩
  obtain ⟨Tb, hAb⟩ : ∃ A : ByteArray, A = ⟨(filL 48 2 b).toArray⟩ := ⟨_, rfl⟩
  obtain ⟨Tc, hAc⟩ : ∃ A : ByteArray, A = ⟨(filL 48 2 c).toArray⟩ := ⟨_, rfl⟩
  rw [← hAa] at HFa
  rw [← hAb] at HFb
  rw [← hAc] at HFc
  have eJ : ([Ta, Tb, Tc].map (·.data.toList)) = [filL 48 2 a, filL 48 2 b, filL 48 2 c] := by rw [hAa, hAb, hAc]; rfl
  have HJ := Lib.hid (fun bk w hcells hbk => Tryd.strings_Join bk 0 3 [Ta, Tb, Tc] sep w hcells hbk (by simp) (by simp) (by
    rw [eJ]
    have hs := len_toList sep
    simp only [Lib.join, List.intercalate, List.intersperse, List.flatten_cons, List.flatten_nil, List.length_append, List.append_nil]
    omega))
  rw [eJ] at HJ
  have e4 : [Ta, Tb, Tc].length = 3 := rfl
  rw [e4] at HJ
  have hbB := h3
  clear h1 h2 h4 e3 hT eJ e4 hAa hAb hAc La Lb Lc
  have hmk := strs3
  obtain ⟨TB, hTB⟩ : ∃ TB, TB = w.heap.size := ⟨_, rfl⟩
  obtain ⟨X1, hX1⟩ : ∃ X, X = w.alloc (.cells #[.string ⟨#[]⟩, .string ⟨#[]⟩, .string ⟨#[]⟩] 9) := ⟨_, rfl⟩
  have HR : Hid (X1.heap[TB]? = some (.cells #[.string ⟨#[]⟩, .string ⟨#[]⟩, .string ⟨#[]⟩] 9 (0, 0))) := by rw [hX1, hTB]; exact heap_alloc_new w _
  have HB : Hid (Below w.heap.size w X1) := by rw [hX1]; exact (Below.refl _ _).alloc (Nat.le_refl _) _
  have HTw : Hid (w.heap.size ≤ TB) := Nat.le_of_eq hTB.symm
  have HC0 := Lib.hid c0
  have HC1 := Lib.hid c1
  have HC2 := Lib.hid c2
  have d0 : X1.cell? ⟨B, 0, none⟩ = some (.int .i64 (a : Int)) := (HB.out.cell (p := ⟨B, 0, none⟩) hbB).trans HC0.out
  have d1 : X1.cell? ⟨B, 1, none⟩ = some (.int .i64 (b : Int)) := (HB.out.cell (p := ⟨B, 1, none⟩) hbB).trans HC1.out
  have d2 : X1.cell? ⟨B, 2, none⟩ = some (.int .i64 (c : Int)) := (HB.out.cell (p := ⟨B, 2, none⟩) hbB).trans HC2.out
  have hB1 : B < X1.heap.size := Nat.lt_of_lt_of_le hbB HB.out.size
  go_enter Tryd.func39, Tryd.ntmps39
  go_wp2_with fail
  refine wp_loop_rounds 4 ?_
  rw [rounds_succ]
  go_wp2_with fail
  rw [← hX1, ← hTB]
  clear hX1 hTB c0 c1 c2
  with_reducible refine (HFa.out X1 (HT.out.below HB.out)).mono ?_
  rintro e u0 ⟨rfl, hb0⟩
  replace HR := Lib.hid ((hb0.block TB (Array.getElem?_eq_some_iff.1 HR.out).1).trans HR.out)
  replace HB := Lib.hid (HB.out.trans (hb0.mono HB.out.size))
  clear d0 d1 d2 hB1 hb0
  have t0 : u0.cell? ⟨TB, 0, none⟩ = some (.string ⟨#[]⟩) := by simp [World.cell?, HR.out]
  have t1 : u0.cell? ⟨TB, 1, none⟩ = some (.string ⟨#[]⟩) := by simp [World.cell?, HR.out]
  have t2 : u0.cell? ⟨TB, 2, none⟩ = some (.string ⟨#[]⟩) := by simp [World.cell?, HR.out]
  have f0 : u0.frozen? ⟨TB, 0, none⟩ = false := by simp [World.frozen?, HR.out]
  have f1 : u0.frozen? ⟨TB, 1, none⟩ = false := by simp [World.frozen?, HR.out]
  have f2 : u0.frozen? ⟨TB, 2, none⟩ = false := by simp [World.frozen?, HR.out]
  have hTl : TB < u0.heap.size := (Array.getElem?_eq_some_iff.1 HR.out).1
  obtain ⟨s0, hs0⟩ : ∃ W, W = u0.setCell ⟨TB, 0, none⟩ (.string Ta) := ⟨_, rfl⟩
  replace HR : Hid (s0.heap[TB]? = some (.cells #[.string Ta, .string ⟨#[]⟩, .string ⟨#[]⟩] 9 (0, 0))) := by rw [hs0]; exact set_at0 HR.out
  replace HB : Hid (Below w.heap.size w s0) := by rw [hs0]; exact HB.out.setCell HTw.out _
  have d0 : s0.cell? ⟨B, 0, none⟩ = some (.int .i64 (a : Int)) := (HB.out.cell (p := ⟨B, 0, none⟩) hbB).trans HC0.out
  have d1 : s0.cell? ⟨B, 1, none⟩ = some (.int .i64 (b : Int)) := (HB.out.cell (p := ⟨B, 1, none⟩) hbB).trans HC1.out
  have d2 : s0.cell? ⟨B, 2, none⟩ = some (.int .i64 (c : Int)) := (HB.out.cell (p := ⟨B, 2, none⟩) hbB).trans HC2.out
  have hB1 : B < s0.heap.size := Nat.lt_of_lt_of_le hbB HB.out.size
  go_wp2_with fail
  rw [← hs0]
  clear hs0 hTl t0 t1 t2 f0 f1 f2
  rw [rounds_succ]
  go_wp2_with fail
  with_reducible refine (HFb.out s0 (HT.out.below HB.out)).mono ?_
  rintro e u1 ⟨rfl, hb1⟩
  replace HR := Lib.hid ((hb1.block TB (Array.getElem?_eq_some_iff.1 HR.out).1).trans HR.out)
  replace HB := Lib.hid (HB.out.trans (hb1.mono HB.out.size))
  clear d0 d1 d2 hB1 hb1
  have t0 : u1.cell? ⟨TB, 0, none⟩ = some (.string Ta) := by simp [World.cell?, HR.out]
  have t1 : u1.cell? ⟨TB, 1, none⟩ = some (.string ⟨#[]⟩) := by simp [World.cell?, HR.out]
  have t2 : u1.cell? ⟨TB, 2, none⟩ = some (.string ⟨#[]⟩) := by simp [World.cell?, HR.out]
  have f0 : u1.frozen? ⟨TB, 0, none⟩ = false := by simp [World.frozen?, HR.out]
  have f1 : u1.frozen? ⟨TB, 1, none⟩ = false := by simp [World.frozen?, HR.out]
  have f2 : u1.frozen? ⟨TB, 2, none⟩ = false := by simp [World.frozen?, HR.out]
  have hTl : TB < u1.heap.size := (Array.getElem?_eq_some_iff.1 HR.out).1
  obtain ⟨s1, hs1⟩ : ∃ W, W = u1.setCell ⟨TB, 1, none⟩ (.string Tb) := ⟨_, rfl⟩
  replace HR : Hid (s1.heap[TB]? = some (.cells #[.string Ta, .string Tb, .string ⟨#[]⟩] 9 (0, 0))) := by rw [hs1]; exact set_at1 HR.out
  replace HB : Hid (Below w.heap.size w s1) := by rw [hs1]; exact HB.out.setCell HTw.out _
  have d0 : s1.cell? ⟨B, 0, none⟩ = some (.int .i64 (a : Int)) := (HB.out.cell (p := ⟨B, 0, none⟩) hbB).trans HC0.out
  have d1 : s1.cell? ⟨B, 1, none⟩ = some (.int .i64 (b : Int)) := (HB.out.cell (p := ⟨B, 1, none⟩) hbB).trans HC1.out
  have d2 : s1.cell? ⟨B, 2, none⟩ = some (.int .i64 (c : Int)) := (HB.out.cell (p := ⟨B, 2, none⟩) hbB).trans HC2.out
  have hB1 : B < s1.heap.size := Nat.lt_of_lt_of_le hbB HB.out.size
  go_wp2_with fail
  rw [← hs1]
  clear hs1 hTl t0 t1 t2 f0 f1 f2
  rw [rounds_succ]
  go_wp2_with fail
  with_reducible refine (HFc.out s1 (HT.out.below HB.out)).mono ?_
  rintro e u2 ⟨rfl, hb2⟩
  replace HR := Lib.hid ((hb2.block TB (Array.getElem?_eq_some_iff.1 HR.out).1).trans HR.out)
  replace HB := Lib.hid (HB.out.trans (hb2.mono HB.out.size))
  clear d0 d1 d2 hB1 hb2
  have t0 : u2.cell? ⟨TB, 0, none⟩ = some (.string Ta) := by simp [World.cell?, HR.out]
  have t1 : u2.cell? ⟨TB, 1, none⟩ = some (.string Tb) := by simp [World.cell?, HR.out]
  have t2 : u2.cell? ⟨TB, 2, none⟩ = some (.string ⟨#[]⟩) := by simp [World.cell?, HR.out]
  have f0 : u2.frozen? ⟨TB, 0, none⟩ = false := by simp [World.frozen?, HR.out]
  have f1 : u2.frozen? ⟨TB, 1, none⟩ = false := by simp [World.frozen?, HR.out]
  have f2 : u2.frozen? ⟨TB, 2, none⟩ = false := by simp [World.frozen?, HR.out]
  have hTl : TB < u2.heap.size := (Array.getElem?_eq_some_iff.1 HR.out).1
  obtain ⟨s2, hs2⟩ : ∃ W, W = u2.setCell ⟨TB, 2, none⟩ (.string Tc) := ⟨_, rfl⟩
  replace HR : Hid (s2.heap[TB]? = some (.cells #[.string Ta, .string Tb, .string Tc] 9 (0, 0))) := by rw [hs2]; exact set_at2 HR.out
  replace HB : Hid (Below w.heap.size w s2) := by rw [hs2]; exact HB.out.setCell HTw.out _
  have d0 : s2.cell? ⟨B, 0, none⟩ = some (.int .i64 (a : Int)) := (HB.out.cell (p := ⟨B, 0, none⟩) hbB).trans HC0.out
  have d1 : s2.cell? ⟨B, 1, none⟩ = some (.int .i64 (b : Int)) := (HB.out.cell (p := ⟨B, 1, none⟩) hbB).trans HC1.out
  have d2 : s2.cell? ⟨B, 2, none⟩ = some (.int .i64 (c : Int)) := (HB.out.cell (p := ⟨B, 2, none⟩) hbB).trans HC2.out
  have hB1 : B < s2.heap.size := Nat.lt_of_lt_of_le hbB HB.out.size
  go_wp2_with fail
  rw [← hs2]
  clear hs2 hTl t0 t1 t2 f0 f1 f2
  rw [rounds_succ]
  go_wp2_with fail
  with_reducible refine (HJ.out TB s2 ?hcl ?hbl).mono ?_
  case hcl =>
    intro j x hx
    rw [Nat.zero_add]
    have hj : j < 3 := by have := (List.getElem?_eq_some_iff.1 hx).1; simpa using this
    rcases (by omega : j = 0 ∨ j = 1 ∨ j = 2) with rfl | rfl | rfl
    · obtain rfl : Ta = x := by simpa using hx
      simp [World.cell?, HR.out]
    · obtain rfl : Tb = x := by simpa using hx
      simp [World.cell?, HR.out]
    · obtain rfl : Tc = x := by simpa using hx
      simp [World.cell?, HR.out]
  case hbl => exact (Array.getElem?_eq_some_iff.1 HR.out).1
  rintro e w9 ⟨rfl, hb9⟩
  go_wp2_with fail
  go_ret
  exact ⟨rfl, HB.out.trans (hb9.mono HB.out.size)⟩
set_option maxRecDepth 100000 in
set_option maxHeartbeats 2000000 in
theorem pairs2_any (sep : ByteArray) (hsp : sep.size ≤ 9) (a b : Nat) (ha : a ≤ 1000000) (hb : b ≤ 1000000) (v : Value) (w : World) (hv : Ints w v [a, b]) (hT : tab w) :
    Calls Tryd.prog 39 #[.string sep, v] w fun e w' => e = .returned (.string ⟨(Lib.join [filL 48 2 a, filL 48 2 b] sep.data.toList).toArray⟩) ∧ Below w.heap.size w w' := by
  have HFa := Lib.hid (fun w h => filled_lit 48 2 2 rfl a (by omega) ha w h)
  have HFb := Lib.hid (fun w h => filled_lit 48 2 2 rfl b (by omega) hb w h)
  obtain ⟨B, cap, rfl, h1, h2, h3, h4⟩ := hv
  have c0 : w.cell? ⟨B, 0, none⟩ = some (.int .i64 (a : Int)) := h4 0 (by simp)
  have c1 : w.cell? ⟨B, 1, none⟩ = some (.int .i64 (b : Int)) := h4 1 (by simp)
  have hcap : 2 ≤ cap := h1
  have e3 : [a, b].length = 2 := rfl
  rw [e3]
  have HT := Lib.hid hT
  have La := filL_len 48 2 a (by omega) ha
  have Lb := filL_len 48 2 b (by omega) hb
  obtain ⟨Ta, hAa⟩ : ∃ A : ByteArray, A = ⟨(filL 48 2 a).toArray⟩ := ⟨_, rfl⟩
  obtain ⟨Tb, hAb⟩ : ∃ A : ByteArray, A = ⟨(filL 48 2 b).toArray⟩ := ⟨_, rfl⟩
  rw [← hAa] at HFa
  rw [← hAb] at HFb
  have eJ : ([Ta, Tb].map (·.data.toList)) = [filL 48 2 a, filL 48 2 b] := by rw [hAa, hAb]; rfl
  have HJ := Lib.hid (fun bk w hcells hbk => Tryd.strings_Join bk 0 2 [Ta, Tb] sep w hcells hbk (by simp) (by simp) (by
    rw [eJ]
    have hs := len_toList sep
    simp only [Lib.join, List.intercalate, List.intersperse, List.flatten_cons, List.flatten_nil, List.length_append, List.append_nil]
    omega))
  rw [eJ] at HJ
  have e4 : [Ta, Tb].length = 2 := rfl
  rw [e4] at HJ
  have hbB := h3
  clear h1 h2 h4 e3 hT eJ e4 hAa hAb La Lb
  have hmk := strs2
  obtain ⟨TB, hTB⟩ : ∃ TB, TB = w.heap.size := ⟨_, rfl⟩
  obtain ⟨X1, hX1⟩ : ∃ X, X = w.alloc (.cells #[.string ⟨#[]⟩, .string ⟨#[]⟩] 9) := ⟨_, rfl⟩
  have HR : Hid (X1.heap[TB]? = some (.cells #[.string ⟨#[]⟩, .string ⟨#[]⟩] 9 (0, 0))) := by rw [hX1, hTB]; exact heap_alloc_new w _
  have HB : Hid (Below w.heap.size w X1) := by rw [hX1]; exact (Below.refl _ _).alloc (Nat.le_refl _) _
  have HTw : Hid (w.heap.size ≤ TB) := Nat.le_of_eq hTB.symm
  have HC0 := Lib.hid c0
  have HC1 := Lib.hid c1
  have d0 : X1.cell? ⟨B, 0, none⟩ = some (.int .i64 (a : Int)) := (HB.out.cell (p := ⟨B, 0, none⟩) hbB).trans HC0.out
  have d1 : X1.cell? ⟨B, 1, none⟩ = some (.int .i64 (b : Int)) := (HB.out.cell (p := ⟨B, 1, none⟩) hbB).trans HC1.out
  have hB1 : B < X1.heap.size := Nat.lt_of_lt_of_le hbB HB.out.size
  go_enter Tryd.func39, Tryd.ntmps39
  go_wp2_with fail
  refine wp_loop_rounds 3 ?_
  rw [rounds_succ]
  go_wp2_with fail
  rw [← hX1, ← hTB]
  clear hX1 hTB c0 c1
  with_reducible refine (HFa.out X1 (HT.out.below HB.out)).mono ?_
  rintro e u0 ⟨rfl, hb0⟩
  replace HR := Lib.hid ((hb0.block TB (Array.getElem?_eq_some_iff.1 HR.out).1).trans HR.out)
  replace HB := Lib.hid (HB.out.trans (hb0.mono HB.out.size))
  clear d0 d1 hB1 hb0
  have t0 : u0.cell? ⟨TB, 0, none⟩ = some (.string ⟨#[]⟩) := by simp [World.cell?, HR.out]
  have t1 : u0.cell? ⟨TB, 1, none⟩ = some (.string ⟨#[]⟩) := by simp [World.cell?, HR.out]
  have f0 : u0.frozen? ⟨TB, 0, none⟩ = false := by simp [World.frozen?, HR.out]
  have f1 : u0.frozen? ⟨TB, 1, none⟩ = false := by simp [World.frozen?, HR.out]
  have hTl : TB < u0.heap.size := (Array.getElem?_eq_some_iff.1 HR.out).1
  obtain ⟨s0, hs0⟩ : ∃ W, W = u0.setCell ⟨TB, 0, none⟩ (.string Ta) := ⟨_, rfl⟩
  replace HR : Hid (s0.heap[TB]? = some (.cells #[.string Ta, .string ⟨#[]⟩] 9 (0, 0))) := by rw [hs0]; exact set_of2_0 HR.out
  replace HB : Hid (Below w.heap.size w s0) := by rw [hs0]; exact HB.out.setCell HTw.out _
  have d0 : s0.cell? ⟨B, 0, none⟩ = some (.int .i64 (a : Int)) := (HB.out.cell (p := ⟨B, 0, none⟩) hbB).trans HC0.out
  have d1 : s0.cell? ⟨B, 1, none⟩ = some (.int .i64 (b : Int)) := (HB.out.cell (p := ⟨B, 1, none⟩) hbB).trans HC1.out
  have hB1 : B < s0.heap.size := Nat.lt_of_lt_of_le hbB HB.out.size
  go_wp2_with fail
  rw [← hs0]
  clear hs0 hTl t0 t1 f0 f1
  rw [rounds_succ]
  go_wp2_with fail
  with_reducible refine (HFb.out s0 (HT.out.below HB.out)).mono ?_
  rintro e u1 ⟨rfl, hb1⟩
  replace HR := Lib.hid ((hb1.block TB (Array.getElem?_eq_some_iff.1 HR.out).1).trans HR.out)
  replace HB := Lib.hid (HB.out.trans (hb1.mono HB.out.size))
  clear d0 d1 hB1 hb1
  have t0 : u1.cell? ⟨TB, 0, none⟩ = some (.string Ta) := by simp [World.cell?, HR.out]
  have t1 : u1.cell? ⟨TB, 1, none⟩ = some (.string ⟨#[]⟩) := by simp [World.cell?, HR.out]
  have f0 : u1.frozen? ⟨TB, 0, none⟩ = false := by simp [World.frozen?, HR.out]
  have f1 : u1.frozen? ⟨TB, 1, none⟩ = false := by simp [World.frozen?, HR.out]
  have hTl : TB < u1.heap.size := (Array.getElem?_eq_some_iff.1 HR.out).1
  obtain ⟨s1, hs1⟩ : ∃ W, W = u1.setCell ⟨TB, 1, none⟩ (.string Tb) := ⟨_, rfl⟩
  replace HR : Hid (s1.heap[TB]? = some (.cells #[.string Ta, .string Tb] 9 (0, 0))) := by rw [hs1]; exact set_of2_1 HR.out
  replace HB : Hid (Below w.heap.size w s1) := by rw [hs1]; exact HB.out.setCell HTw.out _
  have d0 : s1.cell? ⟨B, 0, none⟩ = some (.int .i64 (a : Int)) := (HB.out.cell (p := ⟨B, 0, none⟩) hbB).trans HC0.out
  have d1 : s1.cell? ⟨B, 1, none⟩ = some (.int .i64 (b : Int)) := (HB.out.cell (p := ⟨B, 1, none⟩) hbB).trans HC1.out
  have hB1 : B < s1.heap.size := Nat.lt_of_lt_of_le hbB HB.out.size
  go_wp2_with fail
  rw [← hs1]
  clear hs1 hTl t0 t1 f0 f1
  rw [rounds_succ]
  go_wp2_with fail
  with_reducible refine (HJ.out TB s1 ?hcl ?hbl).mono ?_
  case hcl =>
    intro j x hx
    rw [Nat.zero_add]
    have hj : j < 2 := by have := (List.getElem?_eq_some_iff.1 hx).1; simpa using this
    rcases (by omega : j = 0 ∨ j = 1) with rfl | rfl
    · obtain rfl : Ta = x := by simpa using hx
      simp [World.cell?, HR.out]
    · obtain rfl : Tb = x := by simpa using hx
      simp [World.cell?, HR.out]
  case hbl => exact (Array.getElem?_eq_some_iff.1 HR.out).1
  rintro e w9 ⟨rfl, hb9⟩
  go_wp2_with fail
  go_ret
  exact ⟨rfl, HB.out.trans (hb9.mono HB.out.size)⟩
end Go.Proofs.YtpmjlhpbknppiaaDoor
