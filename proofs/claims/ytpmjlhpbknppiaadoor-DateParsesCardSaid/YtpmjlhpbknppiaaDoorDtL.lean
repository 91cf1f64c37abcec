/- Contracts of package date: Parse. -/
import Derived.Test.YtpmjlhpbknppiaaDoorDtO
import Derived.Test.YtpmjlhpbknppiaaDoorDtH
import Derived.Test.YtpmjlhpbknppiaaDoorChars6
import Derived.ArgAppend
import Derived.Deep.DeepCutAuto
import Derived.Deep.CutBlock
namespace Go.Proofs.YtpmjlhpbknppiaaDoor
open Go Go.RowKit

/-- The texts of a moment, without a day of the week. -/
def weekL (ts : List (List UInt8)) : Bool := match ts with
  | [] => false
  | t :: _ => decide (t.length = 4 ∧ t[3]? = some 44)
def textsL (l : List UInt8) : List (List UInt8) := if weekL (bet l) = true then (bet l).tail else bet l
def parseK (l : List UInt8) : Option (Int × Int) := parseTs (textsL l)
def txL (ls : List (List UInt8)) : List ByteArray := ls.map (fun l => ⟨l.toArray⟩)
theorem txL_len (ls : List (List UInt8)) : (txL ls).length = ls.length := by simp [txL]
theorem txL_back (ls : List (List UInt8)) : (txL ls).map (·.data.toList) = ls := by
  unfold txL
  rw [List.map_map]
  conv => rhs; rw [← List.map_id ls]
  apply List.map_congr_left
  intro l _
  rfl
theorem partLen_le : ∀ (n : Nat) (l : List UInt8) (t : List UInt8), t ∈ betL n l → t.length ≤ l.length
  | 0, l, t, h => by cases h
  | n + 1, l, t, h => by
    rw [betL] at h
    by_cases hl : l = []
    · rw [if_pos hl] at h
      cases h
    · rw [if_neg hl] at h
      rcases List.mem_append.1 h with h1 | h1
      · split at h1
        · cases h1
        · obtain rfl : t = l.takeWhile partB' := by simpa using h1
          exact (List.takeWhile_sublist _).length_le
      · have h2 := partLen_le n _ t h1
        have h3 := after_len l hl
        omega
/-- A row of the call's own, as texts in a row. -/
theorem txts_owned {w : World} {base : Nat} {e : TypeId} {v : Value} {ls : List (List UInt8)} {M : Nat} (h : w.ownsRow base e 1 v ls.length (ls.map strV)) (hM : ∀ t ∈ ls, t.length ≤ M) (hm : M ≤ 9223372036854775807) : Txts [] w v (txL ls) := by
  by_cases h0 : ls.length = 0
  · obtain rfl : ls = [] := List.eq_nil_of_length_eq_zero h0
    rcases h.2 with ⟨rfl, _⟩ | ⟨g, cap, cur, rfl, _, _, h1, h2, _⟩
    · exact ⟨none, 0, rfl, Nat.le_refl _, Nat.zero_le _, fun j hj => by simp [txL] at hj⟩
    · exact ⟨_, cap, rfl, h1, h2, fun j hj => by simp [txL] at hj⟩
  · obtain ⟨g, cap, rfl, h1, h2, h3, h4⟩ := ownsRow_slice h (by omega)
    have hr := rowAt_owned h
    refine ⟨_, cap, by rw [txL_len], by rw [txL_len]; exact h1, h2, fun j hj => ?_⟩
    rw [txL_len] at hj
    have hc := hr.cell j (by simpa using hj)
    refine ⟨g, 0, rfl, h4, (fun a ha => by cases ha), ?_, ?_⟩
    · rw [Nat.zero_add, hc]
      simp only [List.getElem_map, txL]
      rfl
    · have := hM ls[j] (List.getElem_mem hj)
      simp only [txL, List.getElem_map]
      show ls[j].length ≤ _
      omega
theorem Txts.off {τ : Tg} {w : World} {v : Value} {ts : List ByteArray} (h : Txts [] w v ts) (ho : ∀ k, k < w.heap.size → Off τ k) : Txts τ w v ts := by
  obtain ⟨ao, cap, e, h1, h2, h3⟩ := h
  refine ⟨ao, cap, e, h1, h2, fun j hj => ?_⟩
  obtain ⟨b, off, e, hb, _, hc, hs⟩ := h3 j hj
  exact ⟨b, off, e, hb, ho b hb, hc, hs⟩
theorem cells7 (w : World) (t : TypeId) (a : List Value) (h : a.length = 7) : ∀ i, (hi : i < 7) → (w.alloc (.cells a.toArray t)).cell? ⟨w.heap.size, i, none⟩ = some (a[i]'(by omega)) ∧ (w.alloc (.cells a.toArray t)).frozen? ⟨w.heap.size, i, none⟩ = false := by
  intro i hi
  constructor
  · simp only [World.cell?, heap_alloc_new]
    simp [h, hi]
  · exact World.frozen?_alloc_new w _ _ _
def tau7 (P : Nat) : Tg := [(P, 0), (P, 1), (P, 2), (P, 3), (P, 4), (P, 5), (P, 6)]
theorem tau7_mem {P : Nat} {a : Nat × Nat} (h : a ∈ tau7 P) : a.1 = P ∧ a.2 < 7 := by
  unfold tau7 at h
  simp only [List.mem_cons, List.not_mem_nil, or_false] at h
  rcases h with rfl | rfl | rfl | rfl | rfl | rfl | rfl <;> simp
theorem tau7_holds (w : World) (t : TypeId) : Holds (tau7 w.heap.size) (w.alloc (.cells #[.int .i64 0, .int .i64 0, .int .i64 0, .int .i64 0, .int .i64 0, .int .i64 0, .int .i64 0] t)) (fun _ => 0) := by
  intro a ha
  obtain ⟨h1, h2⟩ := tau7_mem ha
  obtain ⟨c1, c2⟩ := cells7 w t [.int .i64 0, .int .i64 0, .int .i64 0, .int .i64 0, .int .i64 0, .int .i64 0, .int .i64 0] rfl a.2 h2
  obtain ⟨b, i⟩ := a
  simp only at h1 h2 c1 c2 ⊢
  subst h1
  refine ⟨c1.trans ?_, c2⟩
  match i, h2 with
  | 0, _ => rfl
  | 1, _ => rfl
  | 2, _ => rfl
  | 3, _ => rfl
  | 4, _ => rfl
  | 5, _ => rfl
  | 6, _ => rfl
theorem tau7_low (P : Nat) {n : Nat} (h : P < n) : Low (tau7 P) n := fun a ha => by rw [(tau7_mem ha).1]; exact h
theorem tau7_off (P : Nat) {k : Nat} (h : k ≠ P) : Off (tau7 P) k := fun a ha e => h (by rw [← e]; exact (tau7_mem ha).1)
theorem tau7_below {P : Nat} {w W : World} {base : Nat} (h : Lt (tau7 P) w W) (hb : base ≤ P) (hs : base ≤ w.heap.size) : Below base w W :=
  h.below (fun a ha => by rw [(tau7_mem ha).1]; exact hb) hs
theorem tau7_row {P : Nat} {W : World} {σ : Sg} {y mo da h mi s : Nat} {z : Int} (hh : Holds (tau7 P) W σ) (hf : Flds P σ y mo da h mi s z) :
    W.cell? ⟨P, 0, none⟩ = some (.int .i64 (y : Int)) ∧ W.cell? ⟨P, 1, none⟩ = some (.int .i64 (mo : Int)) ∧ W.cell? ⟨P, 2, none⟩ = some (.int .i64 (da : Int)) ∧ W.cell? ⟨P, 3, none⟩ = some (.int .i64 (h : Int)) ∧ W.cell? ⟨P, 4, none⟩ = some (.int .i64 (mi : Int)) ∧ W.cell? ⟨P, 5, none⟩ = some (.int .i64 (s : Int)) ∧ W.cell? ⟨P, 6, none⟩ = some (.int .i64 z) := by
  obtain ⟨f0, f1, f2, f3, f4, f5, f6⟩ := hf
  refine ⟨?_, ?_, ?_, ?_, ?_, ?_, ?_⟩
  · rw [← f0]; exact (hh (P, 0) (by simp [tau7])).1
  · rw [← f1]; exact (hh (P, 1) (by simp [tau7])).1
  · rw [← f2]; exact (hh (P, 2) (by simp [tau7])).1
  · rw [← f3]; exact (hh (P, 3) (by simp [tau7])).1
  · rw [← f4]; exact (hh (P, 4) (by simp [tau7])).1
  · rw [← f5]; exact (hh (P, 5) (by simp [tau7])).1
  · rw [← f6]; exact (hh (P, 6) (by simp [tau7])).1
theorem Tryd.infoPc : (Tryd.prog.info? 42).map (fun i => (i.zero, i.size, i.bytes)) = some (some .nilFunc, 1, 8) := by kernel_rfl
theorem cells_list_new (w : World) (t : TypeId) (l : List Value) (j : Nat) (u : Value) (h : l[j]? = some u) : (w.alloc (.cells l.toArray t)).cell? ⟨w.heap.size, j, none⟩ = some u := by
  simp only [World.cell?, heap_alloc_new]
  simpa using h
theorem cells_app_new (w : World) (t : TypeId) (l : List Value) (z : Array Value) (B : Nat) (hB : B = w.heap.size) (j : Nat) (u : Value) (h : l[j]? = some u) : ((w.alloc (.cells (l.toArray ++ z) t)).drew).cell? ⟨B, j, none⟩ = some u := by
  subst hB
  have h1 : ((w.alloc (.cells (l.toArray ++ z) t)).drew).heap[w.heap.size]? = some (.cells (l.toArray ++ z) t (0, 0)) := heap_alloc_new w _
  simp only [World.cell?, h1]
  have hj : j < l.length := (List.getElem?_eq_some_iff.1 h).1
  rw [Array.getElem?_append_left (by simpa using hj)]
  simpa using h
theorem pcs_list {τ : Tg} {W : World} {B cap : Nat} {vs : List Value} {fs : List Pf} (hB : B < W.heap.size) (ho : Off τ B) (hc : ∀ i u, vs[i]? = some u → W.cell? ⟨B, i, none⟩ = some u) (h : PcL τ W vs fs) (h1 : fs.length ≤ cap) (h2 : cap ≤ maxLen) :
    Pcs τ W (.slice (some ⟨B, 0, none⟩) fs.length cap) fs := by
  refine ⟨_, _, rfl, h1, h2, fun i hi => ?_⟩
  obtain ⟨v, hv, ht⟩ := h.at i hi
  exact ⟨B, v, rfl, hB, ho, hc i v hv, ht⟩
def CellsAt (w : World) (B : Nat) (l : List Value) : Prop := B < w.heap.size ∧ ∀ j u, l[j]? = some u → w.cell? ⟨B, 0 + j, none⟩ = some u
theorem CellsAt.lt {τ : Tg} {w W : World} {B : Nat} {l : List Value} (h : CellsAt w B l) (hl : Lt τ w W) (ho : Off τ B) : CellsAt W B l :=
  ⟨Nat.lt_of_lt_of_le h.1 hl.size, fun j u hj => (hl.cell (k := B) (i := 0 + j) h.1 ho).trans (h.2 j u hj)⟩
theorem cellsAt_new (w : World) (t : TypeId) (l : List Value) : CellsAt (w.alloc (.cells l.toArray t)) w.heap.size l :=
  ⟨by simp, fun j u hj => by rw [Nat.zero_add]; exact cells_list_new w t l j u hj⟩
def envD (w : World) : Prop := mons w ∧ zons w ∧ tab w
theorem envD.m {w : World} (h : envD w) : mons w := h.1
theorem envD.z {w : World} (h : envD w) : zons w := h.2.1
theorem envD.below {w w' : World} (h : envD w) (hb : Below w.heap.size w w') : envD w' := ⟨h.1.below hb, h.2.1.below hb, h.2.2.below hb⟩

set_option maxRecDepth 100000 in
set_option maxHeartbeats 8000000 in
theorem parse_any (s : ByteArray) (w : World) (hs : s.size ≤ 1000000000000) (hE : envD w) :
    Calls Tryd.prog 5 #[.string s] w fun e w' => e = .returned (momV (parseK s.data.toList)) ∧ Below w.heap.size w w' := by
  have HBt := Lib.hid (fun w => between_any s w hs)
  have HEn := Lib.hid hE
  have HOW := Lib.hid (fun s w => ofWeek_any s w)
  obtain ⟨X1, hX1⟩ : ∃ X1, X1 = w.alloc (.cells #[.int .i64 0, .int .i64 0] 24) := ⟨_, rfl⟩
  have HB1 : Hid (Below w.heap.size w X1) := by rw [hX1]; exact (Below.refl _ _).alloc (Nat.le_refl _) _
  have hs1 : X1.heap.size = w.heap.size + 1 := by rw [hX1]; simp
  have HRes1 : Hid (X1.heap[w.heap.size]? = some (.cells #[.int .i64 0, .int .i64 0] 24 (0, 0))) := by rw [hX1]; exact heap_alloc_new w _
  obtain ⟨ls, hls⟩ : ∃ ls, ls = bet s.data.toList := ⟨_, rfl⟩
  have HLs := Lib.hid hls
  have hle : ∀ t ∈ ls, t.length ≤ s.size := by
    intro t ht
    rw [hls] at ht
    have := partLen_le _ _ _ ht
    rw [len_toList] at this
    exact this
  have HLe := Lib.hid hle
  rw [← hls] at HBt
  clear hls hE hle
  go_enter Tryd.func5, Tryd.ntmps5
  go_wp2_with fail
  rw [← hX1]
  clear hX1
  with_reducible refine (HBt.out X1).mono ?_
  rintro e w1 ⟨v, rfl, hown, hb⟩
  have htx := txts_owned hown HLe.out (by omega)
  have HB := Lib.hid (HB1.out.trans (hb.mono HB1.out.size))
  have HRes : Hid (w1.heap[w.heap.size]? = some (.cells #[.int .i64 0, .int .i64 0] 24 (0, 0))) := (hb.block _ (by omega)).trans HRes1.out
  have hsz1 : w.heap.size < w1.heap.size := by have := hb.size; omega
  obtain ⟨tao, tcap, rfl, htc, htm, hat⟩ := htx
  have HAt := Lib.hid hat
  unfold maxLen at htm
  clear hown hb hat hs1 HRes1 HB1 HBt
  obtain ⟨B, hBk⟩ : ∃ B, B = weekL ls := ⟨_, rfl⟩
  have HBk := Lib.hid hBk
  clear hBk
  go_upto_region 2 with fail
  go_cut [17] (fun x17 wx => x17 = .bool B ∧ w1 = wx)
  case first =>
    rcases ls with _ | ⟨t0, r⟩
    · have HF : Hid (B = false) := HBk.out
      have e0 : decide ((0 : Int) < ((txL []).length : Int)) = false := by decide
      go_wp2_with fail
      go_meet
      exact ⟨by rw [HF.out], rfl⟩
    · have hl0 : 0 < (txL (t0 :: r)).length := by rw [txL_len]; simp
      obtain ⟨b, off, rfl, hbk, hob, hc, hsz⟩ := HAt.out 0 hl0
      have hc' : w1.cell? ⟨b, off, none⟩ = some (.string ⟨t0.toArray⟩) := hc
      have HO := Lib.hid (fun w => HOW.out ⟨t0.toArray⟩ w)
      have HF : Hid (decide ((⟨t0.toArray⟩ : ByteArray).data.toList.length = 4 ∧ (⟨t0.toArray⟩ : ByteArray).data.toList[3]? = some 44) = B) := by
        unfold Hid
        rw [HBk.out]
        rfl
      rw [HF.out] at HO
      obtain ⟨n, hn⟩ : ∃ n : Nat, n = (txL (t0 :: r)).length := ⟨_, rfl⟩
      rw [← hn] at hl0 htc ⊢
      have e0 : decide ((0 : Int) < (n : Int)) = true := decide_eq_true (by omega)
      have HNn := Lib.hid hn
      clear hc hob hn
      go_wp2_with fail
      with_reducible refine (HO.out _).mono ?_
      rintro e w2 ⟨rfl, rfl⟩
      go_wp2_with fail
      obtain rfl := HNn.out
      go_meet
      exact ⟨rfl, rfl⟩
  case rest =>
    obtain ⟨rfl, rfl⟩ := hcut
    go_upto_if 17 with fail
    go_cut [4] (fun x4 wx => ∃ tao' tcap', x4 = .slice tao' (txL (if B = true then ls.tail else ls)).length tcap' ∧ Hid (Txts [] w1 (.slice tao' (txL (if B = true then ls.tail else ls)).length tcap') (txL (if B = true then ls.tail else ls))) ∧ w1 = wx)
    case first =>
      cases B with
      | false =>
        go_wp2_with fail
        go_meet
        refine ⟨tao, tcap, rfl, ⟨tao, tcap, rfl, htc, by unfold maxLen; exact htm, HAt.out⟩, rfl⟩
      | true =>
        rcases ls with _ | ⟨t0, r⟩
        · exact absurd HBk.out (by decide)
        · have hl0 : 0 < (txL (t0 :: r)).length := by rw [txL_len]; simp
          obtain ⟨b, off, rfl, hbk, hob, hc, hsz⟩ := HAt.out 0 hl0
          have hn : (txL (t0 :: r)).length = (txL r).length + 1 := by rw [txL_len, txL_len]; rfl
          by_cases hcap : tcap = 1
          · subst hcap
            have hr0 : (txL r).length = 0 := by omega
            obtain rfl : r = [] := by
              rw [txL_len] at hr0
              exact List.eq_nil_of_length_eq_zero hr0
            clear hc hob
            have hn1 : (txL [t0]).length = 1 := rfl
            rw [hn1]
            go_wp2_with fail
            go_meet
            exact ⟨_, _, rfl, ⟨_, _, rfl, Nat.le_refl _, Nat.zero_le _, fun j hj => by simp [txL] at hj⟩, rfl⟩
          · obtain ⟨n, hnn⟩ : ∃ n : Nat, n = (txL r).length := ⟨_, rfl⟩
            rw [hn, ← hnn] at htc ⊢
            obtain ⟨c', rfl⟩ : ∃ c', tcap = c' + 1 := ⟨tcap - 1, by omega⟩
            have hc0 : 0 < c' := by omega
            have HN := Lib.hid hnn
            clear hc hob hn hnn hsz hl0
            go_wp2_with fail
            go_meet
            refine ⟨some ⟨b, off + 1, none⟩, c', ?_, ⟨_, _, rfl, (show (txL r).length ≤ c' by rw [← HN.out]; omega), by unfold maxLen; omega, fun j hj => ?_⟩, rfl⟩
            · simp only [if_true, List.tail_cons]
              rw [← HN.out]
              try first | done | rfl | (congr 1 <;> omega) | (simp; omega)
            · have hj' : j + 1 < (txL (t0 :: r)).length := by
                simp only [if_true, List.tail_cons] at hj
                rw [txL_len] at hj ⊢
                simp
                omega
              obtain ⟨b2, off2, e2, g1, g2, g3, g4⟩ := HAt.out (j + 1) hj'
              have e3 := Option.some.inj e2
              simp only [Addr.mk.injEq, and_true] at e3
              obtain ⟨rfl, rfl⟩ := e3
              refine ⟨b, off + 1, rfl, g1, g2, ?_, ?_⟩
              · rw [Nat.add_assoc, Nat.add_comm 1 j]
                exact g3
              · exact g4
    case rest =>
      obtain ⟨tao', tcap', rfl, HTx, rfl⟩ := hcut
      obtain ⟨ts, hts⟩ : ∃ ts, ts = (if B = true then ls.tail else ls) := ⟨_, rfl⟩
      rw [← hts] at HTx ⊢
      have HTs : Hid (textsL s.data.toList = ts) := by
        unfold Hid textsL
        rw [← HLs.out, ← HBk.out, hts]
      clear hts HAt htc htm
      obtain ⟨P, hP⟩ : ∃ P, P = w1.heap.size := ⟨_, rfl⟩
      obtain ⟨X2, hX2⟩ : ∃ X, X = w1.alloc (.cells #[.int .i64 0, .int .i64 0, .int .i64 0, .int .i64 0, .int .i64 0, .int .i64 0, .int .i64 0] 40) := ⟨_, rfl⟩
      have HH : Hid (Holds (tau7 P) X2 (fun _ => 0)) := by rw [hP, hX2]; exact tau7_holds w1 _
      have hs2 : X2.heap.size = P + 1 := by rw [hX2, hP]; simp
      have HLow : Hid (Low (tau7 P) X2.heap.size) := tau7_low P (by rw [hs2]; exact Nat.lt_succ_self _)
      have hb12 : Below w1.heap.size w1 X2 := by rw [hX2]; exact (Below.refl _ _).alloc (Nat.le_refl _) _
      have HB2 : Hid (Below w.heap.size w X2) := HB.out.trans (hb12.mono HB.out.size)
      have HPw : Hid (w.heap.size < P) := by rw [hP]; exact hsz1
      have HRes2 : Hid (X2.heap[w.heap.size]? = some (.cells #[.int .i64 0, .int .i64 0] 24 (0, 0))) := (hb12.block _ hsz1).trans HRes.out
      have HTx2 : Hid (Txts (tau7 P) X2 (.slice tao' (txL ts).length tcap') (txL ts)) := (HTx.out.off (fun k hk => tau7_off P (by rw [hP]; omega))).lt (Lt.of_below hb12)
      have HOm : Hid (Off (tau7 P) 0) := tau7_off P (by have := HEn.out.m.lt; have := HPw.out; omega)
      have HOz : Hid (Off (tau7 P) 1) := tau7_off P (by have := HEn.out.z.lt; have := HPw.out; omega)
      have HRow := Lib.hid (fun sv fs w h1 h2 => row_any (tau7 P) sv fs w h1 h2)
      have HPh := Lib.hid (fun sv fs w h1 h2 => perhaps_any (tau7 P) sv fs w h1 h2)
      have HEi := Lib.hid (fun sv fs w h1 h2 => either_any (tau7 P) sv fs w h1 h2)
      have HMk := Lib.hid (fun t w h1 => mark_any (tau7 P) t w h1)
      have HDg := Lib.hid (fun b i ha n k hk hn w hl => digits_mk (tau7 P) b i ha n k hk hn w hl)
      have HMn := Lib.hid (fun b i ha w hl hg hm => monthName_mk (tau7 P) b i ha w hl hg hm)
      have HSh := Lib.hid (fun b i ha w hl => shortYear_mk (tau7 P) b i ha w hl)
      have HAw := Lib.hid (fun b i ha w hl => away_mk (tau7 P) b i ha w hl)
      have HZn := Lib.hid (fun b i ha w hl hg hm => zoneName_mk (tau7 P) b i ha w hl hg hm)
      have HEa := Lib.hid (fun tv sv ts fs w hl ht hp σ hh => each_any (tau7 P) tv sv ts fs w hl ht hp σ hh)
      have I0 : Hid ((P, 0) ∈ tau7 P) := by unfold Hid tau7; simp
      have I1 : Hid ((P, 1) ∈ tau7 P) := by unfold Hid tau7; simp
      have I2 : Hid ((P, 2) ∈ tau7 P) := by unfold Hid tau7; simp
      have I3 : Hid ((P, 3) ∈ tau7 P) := by unfold Hid tau7; simp
      have I4 : Hid ((P, 4) ∈ tau7 P) := by unfold Hid tau7; simp
      have I5 : Hid ((P, 5) ∈ tau7 P) := by unfold Hid tau7; simp
      have I6 : Hid ((P, 6) ∈ tau7 P) := by unfold Hid tau7; simp
      have HPX : Hid (P < X2.heap.size) := by unfold Hid; rw [hs2]; exact Nat.lt_succ_self _
      unfold MakesP at HRow HPh HEi HMk HDg HMn HSh HAw HZn
      clear hb12 hs2 HTx HB HRes HOW
      go_wp2_with fail
      rw [← hX2, ← hP]
      clear hX2 hP hsz1
      go_wp2_with fail
      with_reducible refine (HDg.out _ _ I2.out 2 2 rfl (by omega) X2 HLow.out).mono ?_
      rintro e v1 ⟨g1, lb1, rfl, T1, hb⟩
      have hl : Lt (tau7 P) X2 v1 := Lt.of_below hb
      replace HB2 := Lib.hid (HB2.out.trans (hb.mono HB2.out.size))
      replace HLow := Lib.hid (HLow.out.mono hb.size)
      replace HH := Lib.hid (HH.out.below hb)
      replace HRes2 := Lib.hid ((hb.block _ (Nat.lt_trans HPw.out HPX.out)).trans HRes2.out)
      replace HTx2 := Lib.hid (HTx2.out.lt hl)
      replace HPX := Lib.hid (Nat.lt_of_lt_of_le HPX.out hb.size)
      clear hl hb
      replace T1 := Lib.hid T1
      go_wp2_with fail
      with_reducible refine (HDg.out _ _ I2.out 1 1 rfl (by omega) v1 HLow.out).mono ?_
      rintro e v2 ⟨g2, lb2, rfl, T2, hb⟩
      have hl : Lt (tau7 P) v1 v2 := Lt.of_below hb
      replace HB2 := Lib.hid (HB2.out.trans (hb.mono HB2.out.size))
      replace HLow := Lib.hid (HLow.out.mono hb.size)
      replace HH := Lib.hid (HH.out.below hb)
      replace HRes2 := Lib.hid ((hb.block _ (Nat.lt_trans HPw.out HPX.out)).trans HRes2.out)
      replace HTx2 := Lib.hid (HTx2.out.lt hl)
      replace HPX := Lib.hid (Nat.lt_of_lt_of_le HPX.out hb.size)
      replace T1 := Lib.hid (T1.out.lt hl)
      clear hl hb
      replace T2 := Lib.hid T2
      obtain ⟨v3, hw⟩ : ∃ W, W = v2.alloc (.cells #[.func (.func g1) #[] lb1, .func (.func g2) #[] lb2] 42) := ⟨_, rfl⟩
      have hb : Below v2.heap.size v2 v3 := by rw [hw]; exact (Below.refl _ _).alloc (Nat.le_refl _) _
      have hl : Lt (tau7 P) v2 v3 := Lt.of_below hb
      have S3 : Hid (Pcs (tau7 P) v3 (.slice (some ⟨v2.heap.size, 0, none⟩) 2 2) [digF 2 (P, 2), digF 1 (P, 2)]) := by rw [hw]; exact pcs_new HLow.out (PcL.cons T1.out (PcL.cons T2.out PcL.nil)) (by simp)
      clear T1
      clear T2
      replace HB2 := Lib.hid (HB2.out.trans (hb.mono HB2.out.size))
      replace HLow := Lib.hid (HLow.out.mono hb.size)
      replace HH := Lib.hid (HH.out.below hb)
      replace HRes2 := Lib.hid ((hb.block _ (Nat.lt_trans HPw.out HPX.out)).trans HRes2.out)
      replace HTx2 := Lib.hid (HTx2.out.lt hl)
      replace HPX := Lib.hid (Nat.lt_of_lt_of_le HPX.out hb.size)
      clear hl hb
      go_wp2_with fail
      rw [← hw]
      clear hw
      with_reducible refine (HEi.out _ _ v3 HLow.out S3.out).mono ?_
      rintro e v4 ⟨g4, lb4, rfl, T4, hb⟩
      have hl : Lt (tau7 P) v3 v4 := Lt.of_below hb
      replace HB2 := Lib.hid (HB2.out.trans (hb.mono HB2.out.size))
      replace HLow := Lib.hid (HLow.out.mono hb.size)
      replace HH := Lib.hid (HH.out.below hb)
      replace HRes2 := Lib.hid ((hb.block _ (Nat.lt_trans HPw.out HPX.out)).trans HRes2.out)
      replace HTx2 := Lib.hid (HTx2.out.lt hl)
      replace HPX := Lib.hid (Nat.lt_of_lt_of_le HPX.out hb.size)
      clear hl hb
      replace T4 := Lib.hid T4
      go_wp2_with fail
      with_reducible refine (HMn.out _ _ I1.out v4 HLow.out HOm.out (HEn.out.below HB2.out).m).mono ?_
      rintro e v5 ⟨g5, lb5, rfl, T5, hb⟩
      have hl : Lt (tau7 P) v4 v5 := Lt.of_below hb
      replace HB2 := Lib.hid (HB2.out.trans (hb.mono HB2.out.size))
      replace HLow := Lib.hid (HLow.out.mono hb.size)
      replace HH := Lib.hid (HH.out.below hb)
      replace HRes2 := Lib.hid ((hb.block _ (Nat.lt_trans HPw.out HPX.out)).trans HRes2.out)
      replace HTx2 := Lib.hid (HTx2.out.lt hl)
      replace HPX := Lib.hid (Nat.lt_of_lt_of_le HPX.out hb.size)
      replace T4 := Lib.hid (T4.out.lt hl)
      clear hl hb
      replace T5 := Lib.hid T5
      go_wp2_with fail
      with_reducible refine (HDg.out _ _ I0.out 4 4 rfl (by omega) v5 HLow.out).mono ?_
      rintro e v6 ⟨g6, lb6, rfl, T6, hb⟩
      have hl : Lt (tau7 P) v5 v6 := Lt.of_below hb
      replace HB2 := Lib.hid (HB2.out.trans (hb.mono HB2.out.size))
      replace HLow := Lib.hid (HLow.out.mono hb.size)
      replace HH := Lib.hid (HH.out.below hb)
      replace HRes2 := Lib.hid ((hb.block _ (Nat.lt_trans HPw.out HPX.out)).trans HRes2.out)
      replace HTx2 := Lib.hid (HTx2.out.lt hl)
      replace HPX := Lib.hid (Nat.lt_of_lt_of_le HPX.out hb.size)
      replace T4 := Lib.hid (T4.out.lt hl)
      replace T5 := Lib.hid (T5.out.lt hl)
      clear hl hb
      replace T6 := Lib.hid T6
      go_wp2_with fail
      with_reducible refine (HSh.out _ _ I0.out v6 HLow.out).mono ?_
      rintro e v7 ⟨g7, lb7, rfl, T7, hb⟩
      have hl : Lt (tau7 P) v6 v7 := Lt.of_below hb
      replace HB2 := Lib.hid (HB2.out.trans (hb.mono HB2.out.size))
      replace HLow := Lib.hid (HLow.out.mono hb.size)
      replace HH := Lib.hid (HH.out.below hb)
      replace HRes2 := Lib.hid ((hb.block _ (Nat.lt_trans HPw.out HPX.out)).trans HRes2.out)
      replace HTx2 := Lib.hid (HTx2.out.lt hl)
      replace HPX := Lib.hid (Nat.lt_of_lt_of_le HPX.out hb.size)
      replace T4 := Lib.hid (T4.out.lt hl)
      replace T5 := Lib.hid (T5.out.lt hl)
      replace T6 := Lib.hid (T6.out.lt hl)
      clear hl hb
      replace T7 := Lib.hid T7
      obtain ⟨v8, hw⟩ : ∃ W, W = v7.alloc (.cells #[.func (.func g6) #[] lb6, .func (.func g7) #[] lb7] 42) := ⟨_, rfl⟩
      have hb : Below v7.heap.size v7 v8 := by rw [hw]; exact (Below.refl _ _).alloc (Nat.le_refl _) _
      have hl : Lt (tau7 P) v7 v8 := Lt.of_below hb
      have S8 : Hid (Pcs (tau7 P) v8 (.slice (some ⟨v7.heap.size, 0, none⟩) 2 2) [digF 4 (P, 0), shortF (P, 0)]) := by rw [hw]; exact pcs_new HLow.out (PcL.cons T6.out (PcL.cons T7.out PcL.nil)) (by simp)
      clear T6
      clear T7
      replace HB2 := Lib.hid (HB2.out.trans (hb.mono HB2.out.size))
      replace HLow := Lib.hid (HLow.out.mono hb.size)
      replace HH := Lib.hid (HH.out.below hb)
      replace HRes2 := Lib.hid ((hb.block _ (Nat.lt_trans HPw.out HPX.out)).trans HRes2.out)
      replace HTx2 := Lib.hid (HTx2.out.lt hl)
      replace HPX := Lib.hid (Nat.lt_of_lt_of_le HPX.out hb.size)
      replace T4 := Lib.hid (T4.out.lt hl)
      replace T5 := Lib.hid (T5.out.lt hl)
      clear hl hb
      go_wp2_with fail
      rw [← hw]
      clear hw
      with_reducible refine (HEi.out _ _ v8 HLow.out S8.out).mono ?_
      rintro e v9 ⟨g9, lb9, rfl, T9, hb⟩
      have hl : Lt (tau7 P) v8 v9 := Lt.of_below hb
      replace HB2 := Lib.hid (HB2.out.trans (hb.mono HB2.out.size))
      replace HLow := Lib.hid (HLow.out.mono hb.size)
      replace HH := Lib.hid (HH.out.below hb)
      replace HRes2 := Lib.hid ((hb.block _ (Nat.lt_trans HPw.out HPX.out)).trans HRes2.out)
      replace HTx2 := Lib.hid (HTx2.out.lt hl)
      replace HPX := Lib.hid (Nat.lt_of_lt_of_le HPX.out hb.size)
      replace T4 := Lib.hid (T4.out.lt hl)
      replace T5 := Lib.hid (T5.out.lt hl)
      clear hl hb
      replace T9 := Lib.hid T9
      go_wp2_with fail
      with_reducible refine (HDg.out _ _ I3.out 2 2 rfl (by omega) v9 HLow.out).mono ?_
      rintro e v10 ⟨g10, lb10, rfl, T10, hb⟩
      have hl : Lt (tau7 P) v9 v10 := Lt.of_below hb
      replace HB2 := Lib.hid (HB2.out.trans (hb.mono HB2.out.size))
      replace HLow := Lib.hid (HLow.out.mono hb.size)
      replace HH := Lib.hid (HH.out.below hb)
      replace HRes2 := Lib.hid ((hb.block _ (Nat.lt_trans HPw.out HPX.out)).trans HRes2.out)
      replace HTx2 := Lib.hid (HTx2.out.lt hl)
      replace HPX := Lib.hid (Nat.lt_of_lt_of_le HPX.out hb.size)
      replace T4 := Lib.hid (T4.out.lt hl)
      replace T5 := Lib.hid (T5.out.lt hl)
      replace T9 := Lib.hid (T9.out.lt hl)
      clear hl hb
      replace T10 := Lib.hid T10
      go_wp2_with fail
      with_reducible refine (HMk.out _ v10 HLow.out).mono ?_
      rintro e v11 ⟨g11, lb11, rfl, T11, hb⟩
      have hl : Lt (tau7 P) v10 v11 := Lt.of_below hb
      replace HB2 := Lib.hid (HB2.out.trans (hb.mono HB2.out.size))
      replace HLow := Lib.hid (HLow.out.mono hb.size)
      replace HH := Lib.hid (HH.out.below hb)
      replace HRes2 := Lib.hid ((hb.block _ (Nat.lt_trans HPw.out HPX.out)).trans HRes2.out)
      replace HTx2 := Lib.hid (HTx2.out.lt hl)
      replace HPX := Lib.hid (Nat.lt_of_lt_of_le HPX.out hb.size)
      replace T4 := Lib.hid (T4.out.lt hl)
      replace T5 := Lib.hid (T5.out.lt hl)
      replace T9 := Lib.hid (T9.out.lt hl)
      replace T10 := Lib.hid (T10.out.lt hl)
      clear hl hb
      replace T11 := Lib.hid T11
      go_wp2_with fail
      with_reducible refine (HDg.out _ _ I4.out 2 2 rfl (by omega) v11 HLow.out).mono ?_
      rintro e v12 ⟨g12, lb12, rfl, T12, hb⟩
      have hl : Lt (tau7 P) v11 v12 := Lt.of_below hb
      replace HB2 := Lib.hid (HB2.out.trans (hb.mono HB2.out.size))
      replace HLow := Lib.hid (HLow.out.mono hb.size)
      replace HH := Lib.hid (HH.out.below hb)
      replace HRes2 := Lib.hid ((hb.block _ (Nat.lt_trans HPw.out HPX.out)).trans HRes2.out)
      replace HTx2 := Lib.hid (HTx2.out.lt hl)
      replace HPX := Lib.hid (Nat.lt_of_lt_of_le HPX.out hb.size)
      replace T4 := Lib.hid (T4.out.lt hl)
      replace T5 := Lib.hid (T5.out.lt hl)
      replace T9 := Lib.hid (T9.out.lt hl)
      replace T10 := Lib.hid (T10.out.lt hl)
      replace T11 := Lib.hid (T11.out.lt hl)
      clear hl hb
      replace T12 := Lib.hid T12
      go_wp2_with fail
      with_reducible refine (HMk.out _ v12 HLow.out).mono ?_
      rintro e v13 ⟨g13, lb13, rfl, T13, hb⟩
      have hl : Lt (tau7 P) v12 v13 := Lt.of_below hb
      replace HB2 := Lib.hid (HB2.out.trans (hb.mono HB2.out.size))
      replace HLow := Lib.hid (HLow.out.mono hb.size)
      replace HH := Lib.hid (HH.out.below hb)
      replace HRes2 := Lib.hid ((hb.block _ (Nat.lt_trans HPw.out HPX.out)).trans HRes2.out)
      replace HTx2 := Lib.hid (HTx2.out.lt hl)
      replace HPX := Lib.hid (Nat.lt_of_lt_of_le HPX.out hb.size)
      replace T4 := Lib.hid (T4.out.lt hl)
      replace T5 := Lib.hid (T5.out.lt hl)
      replace T9 := Lib.hid (T9.out.lt hl)
      replace T10 := Lib.hid (T10.out.lt hl)
      replace T11 := Lib.hid (T11.out.lt hl)
      replace T12 := Lib.hid (T12.out.lt hl)
      clear hl hb
      replace T13 := Lib.hid T13
      go_wp2_with fail
      with_reducible refine (HDg.out _ _ I5.out 2 2 rfl (by omega) v13 HLow.out).mono ?_
      rintro e v14 ⟨g14, lb14, rfl, T14, hb⟩
      have hl : Lt (tau7 P) v13 v14 := Lt.of_below hb
      replace HB2 := Lib.hid (HB2.out.trans (hb.mono HB2.out.size))
      replace HLow := Lib.hid (HLow.out.mono hb.size)
      replace HH := Lib.hid (HH.out.below hb)
      replace HRes2 := Lib.hid ((hb.block _ (Nat.lt_trans HPw.out HPX.out)).trans HRes2.out)
      replace HTx2 := Lib.hid (HTx2.out.lt hl)
      replace HPX := Lib.hid (Nat.lt_of_lt_of_le HPX.out hb.size)
      replace T4 := Lib.hid (T4.out.lt hl)
      replace T5 := Lib.hid (T5.out.lt hl)
      replace T9 := Lib.hid (T9.out.lt hl)
      replace T10 := Lib.hid (T10.out.lt hl)
      replace T11 := Lib.hid (T11.out.lt hl)
      replace T12 := Lib.hid (T12.out.lt hl)
      replace T13 := Lib.hid (T13.out.lt hl)
      clear hl hb
      replace T14 := Lib.hid T14
      obtain ⟨v15, hw⟩ : ∃ W, W = v14.alloc (.cells #[.func (.func g13) #[] lb13, .func (.func g14) #[] lb14] 42) := ⟨_, rfl⟩
      have hb : Below v14.heap.size v14 v15 := by rw [hw]; exact (Below.refl _ _).alloc (Nat.le_refl _) _
      have hl : Lt (tau7 P) v14 v15 := Lt.of_below hb
      have S15 : Hid (Pcs (tau7 P) v15 (.slice (some ⟨v14.heap.size, 0, none⟩) 2 2) [markF [58], digF 2 (P, 5)]) := by rw [hw]; exact pcs_new HLow.out (PcL.cons T13.out (PcL.cons T14.out PcL.nil)) (by simp)
      clear T13
      clear T14
      replace HB2 := Lib.hid (HB2.out.trans (hb.mono HB2.out.size))
      replace HLow := Lib.hid (HLow.out.mono hb.size)
      replace HH := Lib.hid (HH.out.below hb)
      replace HRes2 := Lib.hid ((hb.block _ (Nat.lt_trans HPw.out HPX.out)).trans HRes2.out)
      replace HTx2 := Lib.hid (HTx2.out.lt hl)
      replace HPX := Lib.hid (Nat.lt_of_lt_of_le HPX.out hb.size)
      replace T4 := Lib.hid (T4.out.lt hl)
      replace T5 := Lib.hid (T5.out.lt hl)
      replace T9 := Lib.hid (T9.out.lt hl)
      replace T10 := Lib.hid (T10.out.lt hl)
      replace T11 := Lib.hid (T11.out.lt hl)
      replace T12 := Lib.hid (T12.out.lt hl)
      clear hl hb
      go_wp2_with fail
      rw [← hw]
      clear hw
      with_reducible refine (HPh.out _ _ v15 HLow.out S15.out).mono ?_
      rintro e v16 ⟨g16, lb16, rfl, T16, hb⟩
      have hl : Lt (tau7 P) v15 v16 := Lt.of_below hb
      replace HB2 := Lib.hid (HB2.out.trans (hb.mono HB2.out.size))
      replace HLow := Lib.hid (HLow.out.mono hb.size)
      replace HH := Lib.hid (HH.out.below hb)
      replace HRes2 := Lib.hid ((hb.block _ (Nat.lt_trans HPw.out HPX.out)).trans HRes2.out)
      replace HTx2 := Lib.hid (HTx2.out.lt hl)
      replace HPX := Lib.hid (Nat.lt_of_lt_of_le HPX.out hb.size)
      replace T4 := Lib.hid (T4.out.lt hl)
      replace T5 := Lib.hid (T5.out.lt hl)
      replace T9 := Lib.hid (T9.out.lt hl)
      replace T10 := Lib.hid (T10.out.lt hl)
      replace T11 := Lib.hid (T11.out.lt hl)
      replace T12 := Lib.hid (T12.out.lt hl)
      clear hl hb
      replace T16 := Lib.hid T16
      obtain ⟨v17, hw⟩ : ∃ W, W = v16.alloc (.cells #[.func (.func g10) #[] lb10, .func (.func g11) #[] lb11, .func (.func g12) #[] lb12, .func (.func g16) #[] lb16] 42) := ⟨_, rfl⟩
      have hb : Below v16.heap.size v16 v17 := by rw [hw]; exact (Below.refl _ _).alloc (Nat.le_refl _) _
      have hl : Lt (tau7 P) v16 v17 := Lt.of_below hb
      have S17 : Hid (Pcs (tau7 P) v17 (.slice (some ⟨v16.heap.size, 0, none⟩) 4 4) [digF 2 (P, 3), markF [58], digF 2 (P, 4), eitherF [rowF [markF [58], digF 2 (P, 5)], rowF []]]) := by rw [hw]; exact pcs_new HLow.out (PcL.cons T10.out (PcL.cons T11.out (PcL.cons T12.out (PcL.cons T16.out PcL.nil)))) (by simp)
      clear T10
      clear T11
      clear T12
      clear T16
      replace HB2 := Lib.hid (HB2.out.trans (hb.mono HB2.out.size))
      replace HLow := Lib.hid (HLow.out.mono hb.size)
      replace HH := Lib.hid (HH.out.below hb)
      replace HRes2 := Lib.hid ((hb.block _ (Nat.lt_trans HPw.out HPX.out)).trans HRes2.out)
      replace HTx2 := Lib.hid (HTx2.out.lt hl)
      replace HPX := Lib.hid (Nat.lt_of_lt_of_le HPX.out hb.size)
      replace T4 := Lib.hid (T4.out.lt hl)
      replace T5 := Lib.hid (T5.out.lt hl)
      replace T9 := Lib.hid (T9.out.lt hl)
      clear hl hb
      go_wp2_with fail
      rw [← hw]
      clear hw
      with_reducible refine (HRow.out _ _ v17 HLow.out S17.out).mono ?_
      rintro e v18 ⟨g18, lb18, rfl, T18, hb⟩
      have hl : Lt (tau7 P) v17 v18 := Lt.of_below hb
      replace HB2 := Lib.hid (HB2.out.trans (hb.mono HB2.out.size))
      replace HLow := Lib.hid (HLow.out.mono hb.size)
      replace HH := Lib.hid (HH.out.below hb)
      replace HRes2 := Lib.hid ((hb.block _ (Nat.lt_trans HPw.out HPX.out)).trans HRes2.out)
      replace HTx2 := Lib.hid (HTx2.out.lt hl)
      replace HPX := Lib.hid (Nat.lt_of_lt_of_le HPX.out hb.size)
      replace T4 := Lib.hid (T4.out.lt hl)
      replace T5 := Lib.hid (T5.out.lt hl)
      replace T9 := Lib.hid (T9.out.lt hl)
      clear hl hb
      replace T18 := Lib.hid T18
      have K4 := T4
      have K5 := T5
      have K9 := T9
      have K18 := T18
      have HPl : Hid (P < v18.heap.size) := HPX.out
      obtain ⟨v19, hw⟩ : ∃ W, W = v18.alloc (.cells #[.func (.func g4) #[] lb4, .func (.func g5) #[] lb5, .func (.func g9) #[] lb9, .func (.func g18) #[] lb18] 42) := ⟨_, rfl⟩
      have hb : Below v18.heap.size v18 v19 := by rw [hw]; exact (Below.refl _ _).alloc (Nat.le_refl _) _
      have hl : Lt (tau7 P) v18 v19 := Lt.of_below hb
      have S19 : Hid (Pcs (tau7 P) v19 (.slice (some ⟨v18.heap.size, 0, none⟩) 4 4) (pcs4 P)) := by rw [hw]; exact pcs_new HLow.out (PcL.cons T4.out (PcL.cons T5.out (PcL.cons T9.out (PcL.cons T18.out PcL.nil)))) (by simp)
      clear T4
      clear T5
      clear T9
      clear T18
      replace HB2 := Lib.hid (HB2.out.trans (hb.mono HB2.out.size))
      replace HLow := Lib.hid (HLow.out.mono hb.size)
      replace HH := Lib.hid (HH.out.below hb)
      replace HRes2 := Lib.hid ((hb.block _ (Nat.lt_trans HPw.out HPX.out)).trans HRes2.out)
      replace HTx2 := Lib.hid (HTx2.out.lt hl)
      replace HPX := Lib.hid (Nat.lt_of_lt_of_le HPX.out hb.size)
      replace K4 := Lib.hid (K4.out.lt hl)
      replace K5 := Lib.hid (K5.out.lt hl)
      replace K9 := Lib.hid (K9.out.lt hl)
      replace K18 := Lib.hid (K18.out.lt hl)
      clear hl hb
      have HCs : Hid (CellsAt v19 v18.heap.size [Value.func (.func g4) #[] lb4, .func (.func g5) #[] lb5, .func (.func g9) #[] lb9, .func (.func g18) #[] lb18]) := by unfold Hid; rw [hw]; exact cellsAt_new v18 _ _
      have HPo : Hid (Off (tau7 P) v18.heap.size) := tau7_off P (by intro e; have := HPl.out; omega)
      have hcase := parse_cases P ts (fun _ => 0) rfl rfl
      have h1 := HEa.out _ _ (txL ts) (pcs4 P) v19 HLow.out HTx2.out S19.out (fun _ => 0) HH.out
      rw [txL_back] at h1
      rcases hr1 : eachF (pcs4 P) ts (fun _ => 0) with ⟨b1, σ1⟩
      rw [hr1] at h1 hcase
      have H1 := Lib.hid h1
      clear h1 hr1
      go_wp2_with fail
      rw [← hw]
      clear hw
      rcases hcase with ⟨hb1, hfl⟩ | ⟨hb1, hcase⟩
      · subst hb1
        with_reducible refine H1.out.mono ?_
        rintro e w2 ⟨rfl, hk2, hh2⟩
        obtain ⟨y, mo, da, h, mi, sec, z, ⟨q0, q1, q2, q3, q4, q5, q6, q7⟩, hfl, hpt⟩ := hfl
        obtain ⟨c0, c1, c2, c3, c4, c5, c6⟩ := tau7_row hh2 hfl
        have HMo := Lib.hid (fun w hM => moment_any y mo da h mi sec z (by omega) q1 (by omega) (by omega) (by omega) (by omega) (by omega) (by omega) w hM)
        unfold partA at HMo
        have HK : Hid (momV (parseK s.data.toList) = momV (momentK y mo da h mi sec z)) := by unfold Hid parseK; rw [HTs.out, hpt]
        have HBx := Lib.hid (HB2.out.trans (tau7_below hk2 (Nat.le_of_lt HPw.out) HB2.out.size))
        have HEx := Lib.hid (HEn.out.below HBx.out)
        have hrx : w2.heap[w.heap.size]? = some (.cells #[.int .i64 0, .int .i64 0] 24 (0, 0)) := (hk2.kept _ (Nat.lt_trans HPw.out HPX.out) (tau7_off P (by have := HPw.out; omega))).trans HRes2.out
        have HRx := Lib.hid hrx
        have hpx2 : P < w2.heap.size := Nat.lt_of_lt_of_le HPX.out hk2.size
        have hwx2 : w.heap.size < w2.heap.size := Nat.lt_trans HPw.out hpx2
        clear hfl hpt hh2 hk2 hrx q0 q1 q2 q3 q4 q5 q6 q7
        go_wp2_with fail
        with_reducible refine (HMo.out _ HEx.out.m).mono ?_
        rintro e w3 ⟨rfl, hb3⟩
        have HRy : Hid (w3.heap[w.heap.size]? = some (.cells #[.int .i64 0, .int .i64 0] 24 (0, 0))) := (hb3.block _ hwx2).trans HRx.out
        have HBy := Lib.hid (HBx.out.trans (hb3.mono HBx.out.size))
        have hfz : w3.frozen? ⟨w.heap.size, 0, none⟩ = false := by simp [World.frozen?, HRy.out]
        have hfy : w3.frozen? ⟨w.heap.size, 1, none⟩ = false := by simp [World.frozen?, HRy.out]
        have r0 : w3.cell? ⟨w.heap.size, 0, none⟩ = some (.int .i64 0) := by simp [World.cell?, HRy.out]
        have r1 : w3.cell? ⟨w.heap.size, 1, none⟩ = some (.int .i64 0) := by simp [World.cell?, HRy.out]
        have hwy : w.heap.size < w3.heap.size := Nat.lt_of_lt_of_le hwx2 hb3.size
        obtain ⟨R, hR⟩ : ∃ R, R = momentK y mo da h mi sec z := ⟨_, rfl⟩
        rw [← hR] at HK ⊢
        clear hb3 hR c0 c1 c2 c3 c4 c5 c6
        rcases R with _ | ⟨A, Z⟩
        · unfold momV
          go_wp2_with fail
          refine bodyPost_ret (results_cell_tmp (P := Tryd.prog) Tryd.results5 _ _ w.heap.size 24 _ (0, 0) _ rfl (two_set HRy.out _ _) Tryd.underlying24 rfl (by kernel_rfl)) rfl ?_
          rw [HK.out]
          exact ⟨rfl, (HBy.out.setCell (Nat.le_refl _) _).setCell (Nat.le_refl _) _⟩
        · unfold momV
          go_wp2_with fail
          refine bodyPost_ret (results_cell_tmp (P := Tryd.prog) Tryd.results5 _ _ w.heap.size 24 _ (0, 0) _ rfl (two_set HRy.out _ _) Tryd.underlying24 rfl (by kernel_rfl)) rfl ?_
          rw [HK.out]
          exact ⟨rfl, (HBy.out.setCell (Nat.le_refl _) _).setCell (Nat.le_refl _) _⟩
      · subst hb1
        with_reducible refine H1.out.mono ?_
        rintro e u1 ⟨rfl, hl, hh1⟩
        have hb : Below P v19 u1 := tau7_below hl (Nat.le_refl _) (Nat.le_of_lt HPX.out)
        replace HB2 := Lib.hid (HB2.out.trans (hb.mono (Nat.le_of_lt HPw.out)))
        replace HLow := Lib.hid (HLow.out.mono hl.size)
        replace HH := Lib.hid hh1
        replace HRes2 := Lib.hid ((hb.block _ HPw.out).trans HRes2.out)
        replace HTx2 := Lib.hid (HTx2.out.lt hl)
        replace HPX := Lib.hid (Nat.lt_of_lt_of_le HPX.out hl.size)
        replace K4 := Lib.hid (K4.out.lt hl)
        replace K5 := Lib.hid (K5.out.lt hl)
        replace K9 := Lib.hid (K9.out.lt hl)
        replace K18 := Lib.hid (K18.out.lt hl)
        replace HCs := Lib.hid (HCs.out.lt hl HPo.out)
        clear hl hb hh1 H1 S19
        go_wp2_with fail
        with_reducible refine (HAw.out _ _ I6.out u1 HLow.out).mono ?_
        rintro e v101 ⟨g101, lb101, rfl, T101, hb⟩
        have hl : Lt (tau7 P) u1 v101 := Lt.of_below hb
        replace HB2 := Lib.hid (HB2.out.trans (hb.mono HB2.out.size))
        replace HLow := Lib.hid (HLow.out.mono hb.size)
        replace HH := Lib.hid (HH.out.below hb)
        replace HRes2 := Lib.hid ((hb.block _ (Nat.lt_trans HPw.out HPX.out)).trans HRes2.out)
        replace HTx2 := Lib.hid (HTx2.out.lt hl)
        replace HPX := Lib.hid (Nat.lt_of_lt_of_le HPX.out hb.size)
        replace K4 := Lib.hid (K4.out.lt hl)
        replace K5 := Lib.hid (K5.out.lt hl)
        replace K9 := Lib.hid (K9.out.lt hl)
        replace K18 := Lib.hid (K18.out.lt hl)
        replace HCs := Lib.hid (HCs.out.lt hl HPo.out)
        clear hl hb
        replace T101 := Lib.hid T101
        go_wp2_with fail
        with_reducible refine (HZn.out _ _ I6.out v101 HLow.out HOz.out (HEn.out.below HB2.out).z).mono ?_
        rintro e v102 ⟨g102, lb102, rfl, T102, hb⟩
        have hl : Lt (tau7 P) v101 v102 := Lt.of_below hb
        replace HB2 := Lib.hid (HB2.out.trans (hb.mono HB2.out.size))
        replace HLow := Lib.hid (HLow.out.mono hb.size)
        replace HH := Lib.hid (HH.out.below hb)
        replace HRes2 := Lib.hid ((hb.block _ (Nat.lt_trans HPw.out HPX.out)).trans HRes2.out)
        replace HTx2 := Lib.hid (HTx2.out.lt hl)
        replace HPX := Lib.hid (Nat.lt_of_lt_of_le HPX.out hb.size)
        replace K4 := Lib.hid (K4.out.lt hl)
        replace K5 := Lib.hid (K5.out.lt hl)
        replace K9 := Lib.hid (K9.out.lt hl)
        replace K18 := Lib.hid (K18.out.lt hl)
        replace HCs := Lib.hid (HCs.out.lt hl HPo.out)
        replace T101 := Lib.hid (T101.out.lt hl)
        clear hl hb
        replace T102 := Lib.hid T102
        obtain ⟨v103, hw⟩ : ∃ W, W = v102.alloc (.cells #[.func (.func g101) #[] lb101, .func (.func g102) #[] lb102] 42) := ⟨_, rfl⟩
        have hb : Below v102.heap.size v102 v103 := by rw [hw]; exact (Below.refl _ _).alloc (Nat.le_refl _) _
        have hl : Lt (tau7 P) v102 v103 := Lt.of_below hb
        have S103 : Hid (Pcs (tau7 P) v103 (.slice (some ⟨v102.heap.size, 0, none⟩) 2 2) [awayF (P, 6), zoneF (P, 6)]) := by rw [hw]; exact pcs_new HLow.out (PcL.cons T101.out (PcL.cons T102.out PcL.nil)) (by simp)
        clear T101
        clear T102
        replace HB2 := Lib.hid (HB2.out.trans (hb.mono HB2.out.size))
        replace HLow := Lib.hid (HLow.out.mono hb.size)
        replace HH := Lib.hid (HH.out.below hb)
        replace HRes2 := Lib.hid ((hb.block _ (Nat.lt_trans HPw.out HPX.out)).trans HRes2.out)
        replace HTx2 := Lib.hid (HTx2.out.lt hl)
        replace HPX := Lib.hid (Nat.lt_of_lt_of_le HPX.out hb.size)
        replace K4 := Lib.hid (K4.out.lt hl)
        replace K5 := Lib.hid (K5.out.lt hl)
        replace K9 := Lib.hid (K9.out.lt hl)
        replace K18 := Lib.hid (K18.out.lt hl)
        replace HCs := Lib.hid (HCs.out.lt hl HPo.out)
        clear hl hb
        go_wp2_with fail
        rw [← hw]
        clear hw
        with_reducible refine (HEi.out _ _ v103 HLow.out S103.out).mono ?_
        rintro e v104 ⟨g104, lb104, rfl, T104, hb⟩
        have hl : Lt (tau7 P) v103 v104 := Lt.of_below hb
        replace HB2 := Lib.hid (HB2.out.trans (hb.mono HB2.out.size))
        replace HLow := Lib.hid (HLow.out.mono hb.size)
        replace HH := Lib.hid (HH.out.below hb)
        replace HRes2 := Lib.hid ((hb.block _ (Nat.lt_trans HPw.out HPX.out)).trans HRes2.out)
        replace HTx2 := Lib.hid (HTx2.out.lt hl)
        replace HPX := Lib.hid (Nat.lt_of_lt_of_le HPX.out hb.size)
        replace K4 := Lib.hid (K4.out.lt hl)
        replace K5 := Lib.hid (K5.out.lt hl)
        replace K9 := Lib.hid (K9.out.lt hl)
        replace K18 := Lib.hid (K18.out.lt hl)
        replace HCs := Lib.hid (HCs.out.lt hl HPo.out)
        clear hl hb
        replace T104 := Lib.hid T104
        have K104 := T104
        obtain ⟨v105, hw⟩ : ∃ W, W = v104.alloc (.cells #[.func (.func g104) #[] lb104] 42) := ⟨_, rfl⟩
        have hb : Below v104.heap.size v104 v105 := by rw [hw]; exact (Below.refl _ _).alloc (Nat.le_refl _) _
        have hl : Lt (tau7 P) v104 v105 := Lt.of_below hb
        have S105 : Hid (Pcs (tau7 P) v105 (.slice (some ⟨v104.heap.size, 0, none⟩) 1 1) [eitherF [awayF (P, 6), zoneF (P, 6)]]) := by rw [hw]; exact pcs_new HLow.out (PcL.cons T104.out PcL.nil) (by simp)
        clear T104
        replace HB2 := Lib.hid (HB2.out.trans (hb.mono HB2.out.size))
        replace HLow := Lib.hid (HLow.out.mono hb.size)
        replace HH := Lib.hid (HH.out.below hb)
        replace HRes2 := Lib.hid ((hb.block _ (Nat.lt_trans HPw.out HPX.out)).trans HRes2.out)
        replace HTx2 := Lib.hid (HTx2.out.lt hl)
        replace HPX := Lib.hid (Nat.lt_of_lt_of_le HPX.out hb.size)
        replace K4 := Lib.hid (K4.out.lt hl)
        replace K5 := Lib.hid (K5.out.lt hl)
        replace K9 := Lib.hid (K9.out.lt hl)
        replace K18 := Lib.hid (K18.out.lt hl)
        replace HCs := Lib.hid (HCs.out.lt hl HPo.out)
        replace K104 := Lib.hid (K104.out.lt hl)
        clear hl hb
        have HC1 : Hid (∀ j u, [Value.func (.func g104) #[] lb104][j]? = some u → v105.cell? ((⟨v104.heap.size, 0, none⟩ : Addr).add j) = some u) := by unfold Hid; rw [hw]; intro j u hj; rw [Addr.add_lit, Nat.zero_add]; exact cells_list_new v104 _ _ j u hj
        have hdl : Lt (tau7 P) v104 ((v104.alloc (.cells #[.func (.func g104) #[] lb104] 42)).drew) := Lt.of_below (((Below.refl _ _).alloc (Nat.le_refl _) _).drew)
        have f0 : ((v104.alloc (.cells #[.func (.func g104) #[] lb104] 42)).drew).cell? ⟨v18.heap.size, 0, none⟩ = some (.func (.func g4) #[] lb4) := by rw [hw] at HCs; exact HCs.out.2 0 _ rfl
        have f1 : ((v104.alloc (.cells #[.func (.func g104) #[] lb104] 42)).drew).cell? ⟨v18.heap.size, 1, none⟩ = some (.func (.func g5) #[] lb5) := by rw [hw] at HCs; exact HCs.out.2 1 _ rfl
        have f2 : ((v104.alloc (.cells #[.func (.func g104) #[] lb104] 42)).drew).cell? ⟨v18.heap.size, 2, none⟩ = some (.func (.func g9) #[] lb9) := by rw [hw] at HCs; exact HCs.out.2 2 _ rfl
        have f3 : ((v104.alloc (.cells #[.func (.func g104) #[] lb104] 42)).drew).cell? ⟨v18.heap.size, 3, none⟩ = some (.func (.func g18) #[] lb18) := by rw [hw] at HCs; exact HCs.out.2 3 _ rfl
        have f9 : ((v104.alloc (.cells #[.func (.func g104) #[] lb104] 42)).drew).cell? ⟨v104.heap.size, 0, none⟩ = some (.func (.func g104) #[] lb104) := by rw [hw] at HC1; exact HC1.out 0 _ rfl
        go_wp2_with fail
        obtain ⟨CAP, hCAP⟩ : ∃ C, C = (Question.appendCap 5 4 42).cut (v104.tape v104.drawn (Question.appendCap 5 4 42)) := ⟨_, rfl⟩
        have hcap5 : 5 ≤ CAP := by rw [hCAP]; exact grownCap_ge v104 5 4 42
        have hcapm : CAP ≤ maxLen := by rw [hCAP]; exact grownCap_le_maxLen v104 5 4 42 (by unfold maxLen; omega)
        rw [← hCAP]
        obtain ⟨XF, hXF⟩ : ∃ X, X = ((v104.alloc (.cells #[.func (.func g104) #[] lb104] 42)).alloc (.cells (#[.func (.func g4) #[] lb4, .func (.func g5) #[] lb5, .func (.func g9) #[] lb9, .func (.func g18) #[] lb18, .func (.func g104) #[] lb104] ++ Builtin.zeroCells #[.nilFunc] (CAP - 5)) 42)).drew := ⟨_, rfl⟩
        have hcell : ∀ j u, [Value.func (.func g4) #[] lb4, Value.func (.func g5) #[] lb5, Value.func (.func g9) #[] lb9, Value.func (.func g18) #[] lb18, Value.func (.func g104) #[] lb104][j]? = some u → XF.cell? ⟨v104.heap.size + 1, j, none⟩ = some u := by
          intro j u hj
          rw [hXF]
          exact cells_app_new (v104.alloc (.cells #[.func (.func g104) #[] lb104] 42)) _ _ _ _ (by simp) j u hj
        rw [← hXF]
        have hb : Below v105.heap.size v105 XF := by rw [hXF, hw]; exact ((Below.refl _ _).alloc (Nat.le_refl _) _).drew
        have hl : Lt (tau7 P) v105 XF := Lt.of_below hb
        have hsF : v104.heap.size + 1 < XF.heap.size := by rw [hXF]; simp
        have hsP : P < v104.heap.size + 1 := by have := HPX.out; rw [hw] at this; simpa using this
        clear hdl f0 f1 f2 f3 f9 hXF hw hCAP HC1 HCs
        replace K4 := Lib.hid (K4.out.lt hl)
        replace K5 := Lib.hid (K5.out.lt hl)
        replace K9 := Lib.hid (K9.out.lt hl)
        replace K18 := Lib.hid (K18.out.lt hl)
        replace K104 := Lib.hid (K104.out.lt hl)
        replace HB2 := Lib.hid (HB2.out.trans (hb.mono HB2.out.size))
        replace HLow := Lib.hid (HLow.out.mono hb.size)
        replace HH := Lib.hid (HH.out.below hb)
        replace HRes2 := Lib.hid ((hb.block _ (Nat.lt_trans HPw.out HPX.out)).trans HRes2.out)
        replace HTx2 := Lib.hid (HTx2.out.lt hl)
        replace HPX := Lib.hid (Nat.lt_of_lt_of_le HPX.out hb.size)
        have SF : Pcs (tau7 P) XF (.slice (some ⟨v104.heap.size + 1, 0, none⟩) 5 CAP) (pcs5 P) := pcs_list hsF (tau7_off P (by omega)) hcell (PcL.cons K4.out (PcL.cons K5.out (PcL.cons K9.out (PcL.cons K18.out (PcL.cons K104.out PcL.nil))))) hcap5 hcapm
        have h2 := HEa.out _ _ (txL ts) (pcs5 P) XF HLow.out HTx2.out SF σ1 HH.out
        rw [txL_back] at h2
        rcases hr2 : eachF (pcs5 P) ts σ1 with ⟨b2, σ2⟩
        try simp only at hcase
        rw [hr2] at h2 hcase
        clear hr2 SF hb hl hcell hcap5 hcapm hsF hsP
        rcases hcase with ⟨hb2, hfl⟩ | ⟨hb2, hno⟩
        · subst hb2
          with_reducible refine h2.mono ?_
          rintro e w2 ⟨rfl, hk2, hh2⟩
          clear h2
          obtain ⟨y, mo, da, h, mi, sec, z, ⟨q0, q1, q2, q3, q4, q5, q6, q7⟩, hfl, hpt⟩ := hfl
          obtain ⟨c0, c1, c2, c3, c4, c5, c6⟩ := tau7_row hh2 hfl
          have HMo := Lib.hid (fun w hM => moment_any y mo da h mi sec z (by omega) q1 (by omega) (by omega) (by omega) (by omega) (by omega) (by omega) w hM)
          unfold partA at HMo
          have HK : Hid (momV (parseK s.data.toList) = momV (momentK y mo da h mi sec z)) := by unfold Hid parseK; rw [HTs.out, hpt]
          have HBx := Lib.hid (HB2.out.trans (tau7_below hk2 (Nat.le_of_lt HPw.out) HB2.out.size))
          have HEx := Lib.hid (HEn.out.below HBx.out)
          have hrx : w2.heap[w.heap.size]? = some (.cells #[.int .i64 0, .int .i64 0] 24 (0, 0)) := (hk2.kept _ (Nat.lt_trans HPw.out HPX.out) (tau7_off P (by have := HPw.out; omega))).trans HRes2.out
          have HRx := Lib.hid hrx
          have hpx2 : P < w2.heap.size := Nat.lt_of_lt_of_le HPX.out hk2.size
          have hwx2 : w.heap.size < w2.heap.size := Nat.lt_trans HPw.out hpx2
          clear hfl hpt hh2 hk2 hrx q0 q1 q2 q3 q4 q5 q6 q7
          go_wp2_with fail
          with_reducible refine (HMo.out _ HEx.out.m).mono ?_
          rintro e w3 ⟨rfl, hb3⟩
          have HRy : Hid (w3.heap[w.heap.size]? = some (.cells #[.int .i64 0, .int .i64 0] 24 (0, 0))) := (hb3.block _ hwx2).trans HRx.out
          have HBy := Lib.hid (HBx.out.trans (hb3.mono HBx.out.size))
          have hfz : w3.frozen? ⟨w.heap.size, 0, none⟩ = false := by simp [World.frozen?, HRy.out]
          have hfy : w3.frozen? ⟨w.heap.size, 1, none⟩ = false := by simp [World.frozen?, HRy.out]
          have r0 : w3.cell? ⟨w.heap.size, 0, none⟩ = some (.int .i64 0) := by simp [World.cell?, HRy.out]
          have r1 : w3.cell? ⟨w.heap.size, 1, none⟩ = some (.int .i64 0) := by simp [World.cell?, HRy.out]
          have hwy : w.heap.size < w3.heap.size := Nat.lt_of_lt_of_le hwx2 hb3.size
          obtain ⟨R, hR⟩ : ∃ R, R = momentK y mo da h mi sec z := ⟨_, rfl⟩
          rw [← hR] at HK ⊢
          clear hb3 hR c0 c1 c2 c3 c4 c5 c6
          rcases R with _ | ⟨A, Z⟩
          · unfold momV
            go_wp2_with fail
            refine bodyPost_ret (results_cell_tmp (P := Tryd.prog) Tryd.results5 _ _ w.heap.size 24 _ (0, 0) _ rfl (two_set HRy.out _ _) Tryd.underlying24 rfl (by kernel_rfl)) rfl ?_
            rw [HK.out]
            exact ⟨rfl, (HBy.out.setCell (Nat.le_refl _) _).setCell (Nat.le_refl _) _⟩
          · unfold momV
            go_wp2_with fail
            refine bodyPost_ret (results_cell_tmp (P := Tryd.prog) Tryd.results5 _ _ w.heap.size 24 _ (0, 0) _ rfl (two_set HRy.out _ _) Tryd.underlying24 rfl (by kernel_rfl)) rfl ?_
            rw [HK.out]
            exact ⟨rfl, (HBy.out.setCell (Nat.le_refl _) _).setCell (Nat.le_refl _) _⟩
        · subst hb2
          with_reducible refine h2.mono ?_
          rintro e w3 ⟨rfl, hk2, hh2⟩
          have HK : Hid (momV (parseK s.data.toList) = momV none) := by unfold Hid parseK; rw [HTs.out, hno]
          have HBy := Lib.hid (HB2.out.trans (tau7_below hk2 (Nat.le_of_lt HPw.out) HB2.out.size))
          have HRy : Hid (w3.heap[w.heap.size]? = some (.cells #[.int .i64 0, .int .i64 0] 24 (0, 0))) := (hk2.kept _ (Nat.lt_trans HPw.out HPX.out) (tau7_off P (by have := HPw.out; omega))).trans HRes2.out
          have hfz : w3.frozen? ⟨w.heap.size, 0, none⟩ = false := by simp [World.frozen?, HRy.out]
          have hfy : w3.frozen? ⟨w.heap.size, 1, none⟩ = false := by simp [World.frozen?, HRy.out]
          have r0 : w3.cell? ⟨w.heap.size, 0, none⟩ = some (.int .i64 0) := by simp [World.cell?, HRy.out]
          have r1 : w3.cell? ⟨w.heap.size, 1, none⟩ = some (.int .i64 0) := by simp [World.cell?, HRy.out]
          have hwy : w.heap.size < w3.heap.size := Nat.lt_of_lt_of_le (Nat.lt_trans HPw.out HPX.out) hk2.size
          clear h2 hk2 hh2 hno
          go_wp2_with fail
          refine bodyPost_ret (results_cell_tmp (P := Tryd.prog) Tryd.results5 _ _ w.heap.size 24 _ (0, 0) _ rfl (two_set HRy.out _ _) Tryd.underlying24 rfl (by kernel_rfl)) rfl ?_
          rw [HK.out]
          exact ⟨rfl, (HBy.out.setCell (Nat.le_refl _) _).setCell (Nat.le_refl _) _⟩
end Go.Proofs.YtpmjlhpbknppiaaDoor
