/- Contracts of the law's own: a value as the document's. -/
import Derived.Test.YtcnihodikpcfkaaGreatDoorPbJ
import Derived.Test.YtcnihodikpcfkaaGreatDoorQB
import Derived.Test.YtcnihodikpcfkaaGreatDoorParW
import Derived.Deep.RegionHeld
namespace Go.Proofs.YtcnihodikpcfkaaGreatDoor
open Go Go.RowKit

set_option maxRecDepth 100000 in
set_option maxHeartbeats 8000000 in
theorem modelOf_any (A S : List UInt8) (u : Value) (ps : List Prm) (w : World) (hu : prmAt w u ps) (hpl : ps.length ≤ 100000) :
    Calls Tryz.prog 13 #[.agg #[.string ⟨A.toArray⟩, .string ⟨S.toArray⟩, u]] w fun e w' => ∃ a n c, e = .returned (.agg #[.string ⟨A.toArray⟩, .string ⟨S.toArray⟩, .slice a n c]) ∧ prmAt w' (.slice a n c) ps ∧ Below w.heap.size w w' := by
  obtain ⟨i0, hi0, hz⟩ := Option.map_eq_some_iff.1 Tryz.infoP
  simp only [Prod.mk.injEq] at hz
  obtain ⟨hz0, hz1, hz2⟩ := hz
  obtain ⟨ao, cap, rfl, hcl, hcm, hcell⟩ := hu
  have HC := Lib.hid hcell
  unfold maxLen at hcm
  clear hcell
  obtain ⟨n, hn⟩ : ∃ n, n = ps.length := ⟨_, rfl⟩
  have HN := Lib.hid hn
  rw [← hn] at hcl hpl ⊢
  clear hn
  obtain ⟨W1, hW1⟩ : ∃ W1, W1 = ((w.alloc (.cells #[.string ⟨A.toArray⟩, .string ⟨S.toArray⟩, .slice ao n cap] 25)).alloc (.cells #[.string ⟨#[]⟩, .string ⟨#[]⟩, .slice none 0 0] 30)).alloc (.cells #[.string ⟨A.toArray⟩, .string ⟨S.toArray⟩, .slice none 0 0] 30) := ⟨_, rfl⟩
  have HW1 : Hid (_ = W1) := hW1.symm
  have HB1 : Hid (Below w.heap.size w W1) := by rw [hW1]; exact (((Below.refl _ _).alloc (Nat.le_refl _) _).alloc (by simp) _).alloc (by simp; omega) _
  have hsz1 : W1.heap.size = w.heap.size + 3 := by rw [hW1]; simp
  have HV1 : Hid (W1.heap[w.heap.size + 2]? = some (vBox A S (.slice none 0 0))) := by
    unfold Hid
    rw [hW1]
    have := heap_alloc_new ((w.alloc (.cells #[.string ⟨A.toArray⟩, .string ⟨S.toArray⟩, .slice ao n cap] 25)).alloc (.cells #[.string ⟨#[]⟩, .string ⟨#[]⟩, .slice none 0 0] 30)) (.cells #[.string ⟨A.toArray⟩, .string ⟨S.toArray⟩, .slice none 0 0] 30)
    have e : ((w.alloc (.cells #[.string ⟨A.toArray⟩, .string ⟨S.toArray⟩, .slice ao n cap] 25)).alloc (.cells #[.string ⟨#[]⟩, .string ⟨#[]⟩, .slice none 0 0] 30)).heap.size = w.heap.size + 2 := by simp
    rw [e] at this
    exact this
  have HR1 : Hid (W1.heap[w.heap.size + 1]? = some (.cells #[.string ⟨#[]⟩, .string ⟨#[]⟩, .slice none 0 0] 30 (0, 0))) := by
    unfold Hid
    rw [hW1, Below.heap_alloc _ _ _ (by simp)]
    have := heap_alloc_new (w.alloc (.cells #[.string ⟨A.toArray⟩, .string ⟨S.toArray⟩, .slice ao n cap] 25)) (.cells #[.string ⟨#[]⟩, .string ⟨#[]⟩, .slice none 0 0] 30)
    simpa using this
  have HU1 : Hid (W1.heap[w.heap.size]? = some (.cells #[.string ⟨A.toArray⟩, .string ⟨S.toArray⟩, .slice ao n cap] 25 (0, 0))) := by
    unfold Hid
    rw [hW1, Below.heap_alloc _ _ _ (by simp; omega), Below.heap_alloc _ _ _ (by simp)]
    exact heap_alloc_new _ _
  clear hW1
  go_enter Tryz.func13, Tryz.ntmps13
  go_wp2_with fail
  rw [HW1.out]
  go_loopg [4] n (fun g v4 wr => ∃ (i : Nat) (u : Value), g = n - i ∧ i ≤ n ∧ v4 = .int .i64 (i : Int) ∧ Hid (wr.heap[w.heap.size + 2]? = some (vBox A S u)) ∧ Hid (wr.ownsRow W1.heap.size 56 2 u i (prmCells (ps.take i))) ∧ Hid (Gr (w.heap.size + 2) W1 wr))
  case atStart => exact ⟨0, .slice none 0 0, by omega, by omega, rfl, HV1.out, World.ownsRow_nil _ _ _ _, Gr.refl _ _⟩
  case round =>
    obtain ⟨i, u, rfl, hi, rfl, HV, HO, HG⟩ := hrel
    have hszr := HG.out.size
    have hu0 := HG.out.row (g := w.heap.size) (by omega) HU1.out
    have hlu : w.heap.size < wr.heap.size := by omega
    have cu : wr.cell? ⟨w.heap.size, 2, none⟩ = some (.slice ao n cap) := by simp [World.cell?, hu0]
    clear hu0
    by_cases hlt : i < n
    · have hltP : i < ps.length := by rw [← HN.out]; exact hlt
      have hini : (i : Int) < (n : Int) := by omega
      have hi0' : (0 : Int) ≤ (i : Int) := by omega
      have HT : Hid (ps.take (i + 1) = ps.take i ++ [((ps[i]).1, (ps[i]).2)]) := List.take_succ_eq_append_getElem hltP
      rcases HC.out with h0 | ⟨g, rfl, hg, hcc⟩
      · rw [h0] at hltP
        simp at hltP
      obtain ⟨d0, d1⟩ := hcc i hltP
      obtain ⟨nm, hnm⟩ : ∃ nm, nm = (ps[i]).1 := ⟨_, rfl⟩
      obtain ⟨vl, hvl⟩ : ∃ vl, vl = (ps[i]).2 := ⟨_, rfl⟩
      rw [← hnm, ← hvl] at HT
      rw [← hnm] at d0
      rw [← hvl] at d1
      have hgw : g ≠ w.heap.size + 2 := by omega
      have hgw2 : ¬ g = w.heap.size + 2 := hgw
      have hblk : wr.heap[g]? = w.heap[g]? := (HG.out.block g (by omega) (fun e => hgw (Option.some.inj e))).trans (HB1.out.block g hg)
      replace d0 := (World.cell?_of_block (a := ⟨g, i * 2, none⟩) hblk).trans d0
      replace d1 := (World.cell?_of_block (a := ⟨g, i * 2 + 1, none⟩) hblk).trans d1
      have hgr : g < wr.heap.size := by omega
      obtain ⟨c2, f2⟩ := vBox_c2 HV.out
      have hB3r : w.heap.size + 2 < wr.heap.size := (Array.getElem?_eq_some_iff.1 HV.out).1
      have HOx : Hid (∀ W, Below wr.heap.size wr W → W.ownsRow W1.heap.size 56 2 u i (prmCells (ps.take i))) := fun W hb => ownsRow_below HO.out hb
      have HSx : Hid (∀ W, Below wr.heap.size wr W → W1.heap.size ≤ W.heap.size) := fun W hb => Nat.le_trans hszr hb.size
      have HXv : Hid (∀ W W', Below wr.heap.size wr W → W.grownBy W' u.ownBlock → W'.heap[w.heap.size + 2]? = some (vBox A S u)) := fun W W' hb hgw' =>
        (hgw'.block (w.heap.size + 2) (Nat.lt_of_lt_of_le hB3r hb.size) (fun e => by have := (HO.out.lt (w.heap.size + 2) e.symm).1; omega)).trans ((hb.block (w.heap.size + 2) hB3r).trans HV.out)
      clear hcc hnm hvl hltP hblk
      go_wp2_with fail
      go_region_law ((refine step_append_lies _ (by exact rfl) _ _ 28 (by exact rfl) W1.heap.size 56 i0 (.agg #[.string ⟨#[]⟩, .string ⟨#[]⟩]) 2 32 Tryz.underlying28 hi0 hz0 hz1 hz2 rfl (by decide) _ i (prmCells (ps.take i)) (by exact rfl) (HOx.out _ (by first | exact (Below.refl _ _).drew | exact (Below.refl _ _).drew.alloc (Nat.le_refl _) _ | exact ((Below.refl _ _).alloc (Nat.le_refl _) _).drew)) ⟨wr.heap.size, 0, none⟩ 1 1 [.string ⟨nm.toArray⟩, .string ⟨vl.toArray⟩] (by exact rfl) rfl (World.news_of_block (cs := #[.string ⟨nm.toArray⟩, .string ⟨vl.toArray⟩]) (heap_alloc_new wr _)) (by simp [Value.oneCell']) (by decide) (by unfold maxLen; omega) (by omega) (HSx.out _ (by first | exact (Below.refl _ _).drew | exact (Below.refl _ _).drew.alloc (Nat.le_refl _) _ | exact ((Below.refl _ _).alloc (Nat.le_refl _) _).drew)) _ rfl ?_; intro g7 cap7 w7 hown7 hgrow7 _ _; obtain ⟨c7, f7⟩ := vBox_c2 (HXv.out _ _ (by first | exact (Below.refl _ _).drew | exact (Below.refl _ _).drew.alloc (Nat.le_refl _) _ | exact ((Below.refl _ _).alloc (Nat.le_refl _) _).drew) hgrow7)))
      all_goals
        have HV8 := Lib.hid (vBox_set2 (HXv.out _ _ (by first | exact (Below.refl _ _).drew.alloc (Nat.le_refl _) _ | exact ((Below.refl _ _).alloc (Nat.le_refl _) _).drew) hgrow7) (.slice (some ⟨g7, 0, none⟩) (i + 1) cap7))
        have HG8 := Lib.hid ((Gr.own (HG.out.below (show Below wr.heap.size wr _ from (by first | exact (Below.refl _ _).drew.alloc (Nat.le_refl _) _ | exact ((Below.refl _ _).alloc (Nat.le_refl _) _).drew))) hgrow7 (fun q hq => (HO.out.lt q hq).1)).set 2 (.slice (some ⟨g7, 0, none⟩) (i + 1) cap7))
        have HO8 : Hid ((w7.setCell ⟨w.heap.size + 2, 2, none⟩ (.slice (some ⟨g7, 0, none⟩) (i + 1) cap7)).ownsRow W1.heap.size 56 2 (.slice (some ⟨g7, 0, none⟩) (i + 1) cap7) (i + 1) (prmCells (ps.take i) ++ [.string ⟨nm.toArray⟩, .string ⟨vl.toArray⟩])) := hown7.kept (row := some (w.heap.size + 2)) (grownBy_setCell _ _ _) (by
          cases hv : (Value.slice (some ⟨g7, 0, none⟩) (i + 1) cap7).ownBlock with
          | none => exact .inl rfl
          | some q => exact .inr (fun e => by have := (hown7.lt q hv).1; have e := Option.some.inj e; omega))
        clear hown7 hgrow7 c7 f7
        go_wp2
        go_roundg (n - (i + 1))
        case measure => omega
        case rel =>
          refine ⟨i + 1, _, rfl, by omega, by go_num, HV8.out, own_cast2 HO8.out rfl ?_, HG8.out⟩
          rw [HT.out, prmCells_app, prmCells_one]
    · obtain rfl : i = n := by omega
      have HRr : Hid (wr.heap[w.heap.size + 1]? = some _) := HG.out.row (g := w.heap.size + 1) (by omega) HR1.out
      have hvr := HV.out
      unfold vBox at hvr
      obtain ⟨uo, un, uc, rfl⟩ : ∃ a n c, u = .slice a n c := by
        rcases HO.out.2 with ⟨h, _⟩ | ⟨g, cp, cur, h, _⟩
        · exact ⟨_, _, _, h⟩
        · exact ⟨_, _, _, h⟩
      go_wp2_with (first | (refine wpList_load_row rfl 30 (.tmp 3) rfl (w.heap.size + 2) rfl 30 _ (0, 0) _ hvr Tryz.underlying30 rfl rfl ?_) | (refine wpList_store_row' rfl 30 (.tmp 2) (.tmp 35) rfl (w.heap.size + 1) #[.string ⟨A.toArray⟩, .string ⟨S.toArray⟩, .slice uo un uc] rfl rfl 30 _ HRr.out (by kernel_rfl) rfl (by kernel_rfl) ?_; intro WE hWE))
      (try simp only [Exit.inBlock, Exit.then])
      have hrow := setRow_heap _ (w.heap.size + 1) _ #[.string ⟨A.toArray⟩, .string ⟨S.toArray⟩, .slice uo un uc] _ _ HRr.out
      rw [← hWE.out] at hrow
      refine bodyPost_ret (results_cell_row (P := Tryz.prog) Tryz.results13 _ _ (w.heap.size + 1) 30 _ (0, 0) _ rfl hrow Tryz.underlying30 rfl rfl) rfl ?_
      refine ⟨uo, un, uc, rfl, ?_, ?_⟩
      · have ho : (wr.setRow (w.heap.size + 1) #[.string ⟨A.toArray⟩, .string ⟨S.toArray⟩, .slice uo un uc]).ownsRow W1.heap.size 56 2 (.slice uo un uc) _ _ :=
          HO.out.kept (row := some (w.heap.size + 1)) ⟨rfl, rfl, rfl, by rw [size_setRow]; exact Nat.le_refl _, fun k _ hk => setRow_other _ _ k _ (fun e => hk (by rw [e]))⟩ (by
            cases hv : (Value.slice uo un uc).ownBlock with
            | none => exact .inl rfl
            | some q =>
              refine .inr (fun e => ?_)
              have h2 := (HO.out.lt q hv).1
              have h3 := Option.some.inj e
              omega)
        rw [hWE.out]
        refine prmAt_ownedP (base := W1.heap.size) ?_
        rw [← HN.out]
        exact own_cast2 ho rfl (by rw [List.take_of_length_le (by have := HN.out; omega)])
      · rw [hWE.out]
        exact below_setRow (Below.grown HB1.out HG.out HB1.out.size (by intro k hk; cases hk; omega)) (by omega) _
end Go.Proofs.YtcnihodikpcfkaaGreatDoor

/- Statement ParamsParses: the value of any text, and any parameter of it, are the document's, or it has none. -/
namespace Go.Proofs.YtcnihodikpcfkaaGreatDoor
open Go Go.RowKit

theorem parsL_few : ∀ (n : Nat) (l : List UInt8), (parsL n l).length ≤ l.length := by
  intro n
  induction n with
  | zero => intro l; exact Nat.zero_le _
  | succ n ih =>
    intro l
    have e : parsL (n + 1) l = match parL l with | none => [] | some (p, r) => p :: parsL n r := rfl
    rw [e]
    cases hp : parL l with
    | none => exact Nat.zero_le _
    | some x =>
      obtain ⟨p, r⟩ := x
      have h1 := parL_len hp
      have h2 := ih r
      show (p :: parsL n r).length ≤ _
      rw [List.length_cons]
      omega
theorem joinA_few (qs : List Prm) : ∀ (ps : List Prm) (pre : List (List UInt8)), (joinA qs pre ps).length ≤ ps.length := by
  intro ps
  induction ps with
  | nil => intro pre; exact Nat.le_refl _
  | cons p t ih =>
    intro pre
    have h := ih (baseL p.1 :: pre)
    show (if _ then _ else match toldL qs (baseL p.1) with | some v => _ | none => _ : List Prm).length ≤ _
    rw [List.length_cons]
    split
    · omega
    · split
      · rw [List.length_cons]; omega
      · omega
theorem parse_few {l : List UInt8} {two : Bool} {V : Val} (h : parseL l two = some V) : V.params.length ≤ l.length := by
  unfold parseL at h
  have h0 := tokenL_len l
  split at h
  · cases h
  · split at h
    · split at h
      · cases h
      · next u r hs =>
        cases h
        have h1 := joinA_few (parsL r.length r) (parsL r.length r) []
        have h2 := parsL_few r.length r
        unfold subL at hs
        split at hs
        · cases hs
        · next r0 e0 =>
          split at hs
          · cases hs
          · cases hs
            have h3 := takeL_len e0
            have h4 := tokenL_len r0
            show (joinA _ _ _).length ≤ _
            omega
    · cases h
      have h1 := joinA_few (parsL (tokenL l).2.length (tokenL l).2) (parsL (tokenL l).2.length (tokenL l).2) []
      have h2 := parsL_few (tokenL l).2.length (tokenL l).2
      show (joinA _ _ _).length ≤ _
      omega
theorem refParse_both (s : ByteArray) (two : Bool) (w : World) (hl : s.size ≤ 100000) :
    Calls Tryz.prog 9 #[.string s, .bool two] w (refParsePost (parseL s.data.toList two) w) := by
  cases two
  · exact refParse_false s w hl
  · exact refParse_true s w hl
theorem refParse_some (s : ByteArray) (two : Bool) (V : Val) (hV : parseL s.data.toList two = some V) (w : World) (hl : s.size ≤ 100000) :
    Calls Tryz.prog 9 #[.string s, .bool two] w fun e w' => ∃ a n c, e = .returned (.tuple #[.agg #[.string ⟨V.type.toArray⟩, .string ⟨V.sub.toArray⟩, .slice a n c], .bool true]) ∧ prmAt w' (.slice a n c) V.params ∧ Below w.heap.size w w' :=
  (refParse_both s two w hl).mono fun e w' ⟨t, sb, u, ps, b, he, hown, hb, hc⟩ => by
    rw [hV] at hc
    obtain ⟨rfl, rfl, rfl, rfl⟩ := hc
    have hp := prmAt_ownedP hown
    obtain ⟨ao, cap, rfl, _, _, _⟩ := prmAt_ownedP hown
    exact ⟨_, _, _, he, hp, hb⟩
theorem refParse_none (s : ByteArray) (two : Bool) (hV : parseL s.data.toList two = none) (w : World) (hl : s.size ≤ 100000) :
    Calls Tryz.prog 9 #[.string s, .bool two] w fun e w' => ∃ a n c, e = .returned (.tuple #[.agg #[.string ⟨#[]⟩, .string ⟨#[]⟩, .slice a n c], .bool false]) ∧ prmAt w' (.slice a n c) [] ∧ Below w.heap.size w w' :=
  (refParse_both s two w hl).mono fun e w' ⟨t, sb, u, ps, b, he, hown, hb, hc⟩ => by
    rw [hV] at hc
    obtain ⟨rfl, rfl, rfl, rfl⟩ := hc
    have hp := prmAt_ownedP hown
    obtain ⟨ao, cap, rfl, _, _, _⟩ := prmAt_ownedP hown
    exact ⟨_, _, _, he, hp, hb⟩
theorem refQuoted_is (s : ByteArray) (w : World) (hl : s.size ≤ 1000000) :
    Calls Tryz.prog 15 #[.string s] w fun e w' => e = .returned (.string ⟨(quoteL s.data.toList).toArray⟩) ∧ w = w' :=
  (refQuotedT_any s w hl).mono fun e w' ⟨T, he, hT, hw⟩ => ⟨by rw [he, str_of T hT], hw⟩

set_option maxRecDepth 100000 in
set_option maxHeartbeats 8000000 in
theorem parses_core (s nm : ByteArray) (two b : Bool) (ts sb : List UInt8) (ps : List Prm) (w : World) (he : env w) (hs : s.size ≤ 400) (hn : nm.size ≤ 100) (hsm : small1 ps) (hpl : ps.length ≤ 100000)
    (hP : ∀ W, env W → Calls Tryz.prog 8 #[.string s, .bool two] W fun e w' => ∃ a n c, e = .returned (.tuple #[.agg #[.string ⟨ts.toArray⟩, .string ⟨sb.toArray⟩, .slice a n c], .bool b]) ∧ prmAt w' (.slice a n c) ps ∧ Below W.heap.size W w')
    (hR : ∀ W, Calls Tryz.prog 9 #[.string s, .bool two] W fun e w' => ∃ a n c, e = .returned (.tuple #[.agg #[.string ⟨ts.toArray⟩, .string ⟨sb.toArray⟩, .slice a n c], .bool b]) ∧ prmAt w' (.slice a n c) ps ∧ Below W.heap.size W w') :
    Calls Tryz.prog 3 #[.string s, .bool two, .string nm] w fun e w' => e = .returned (.bool true) ∧ Below w.heap.size w w' := by
  have HE := Lib.hid he
  have HAw := Lib.hid (awake_any w he)
  have HP := Lib.hid hP
  have HR := Lib.hid hR
  clear he hP hR
  have q1 : decide ((400 : Int) < (s.size : Int)) = false := decide_eq_false (by omega)
  have q2 : ¬ (400 : Int) < (s.size : Int) := by omega
  have q3 : decide ((100 : Int) < (nm.size : Int)) = false := decide_eq_false (by omega)
  have q4 : ¬ (100 : Int) < (nm.size : Int) := by omega
  have qb : (b == b) = true := by simp
  obtain ⟨A, hA⟩ : ∃ A : ByteArray, A = ⟨ts.toArray⟩ := ⟨_, rfl⟩
  obtain ⟨S, hS⟩ : ∃ S : ByteArray, S = ⟨sb.toArray⟩ := ⟨_, rfl⟩
  have HMo := Lib.hid (fun u W h => modelOf_any ts sb u ps W h hpl)
  rw [← hA, ← hS] at HP HR HMo
  have HSm := Lib.hid (fun u v W h1 h2 => refSame_any A S u v ps W h1 h2)
  obtain ⟨G, gb, hG⟩ : ∃ (G : ByteArray) (gb : Bool), getOV (getP ps nm.data.toList) = .tuple #[.string G, .bool gb] := by
    cases getP ps nm.data.toList with
    | none => exact ⟨_, _, rfl⟩
    | some v => exact ⟨_, _, rfl⟩
  have qg : (G.toList == G.toList) = true := by simp
  have qgb : (gb == gb) = true := by simp
  have HGe := Lib.hid (fun u W h => get_any A S u ps nm W h hsm)
  have HGr := Lib.hid (fun u W h => refGet_any A S u ps nm W h hsm (by omega))
  rw [hG] at HGe HGr
  obtain ⟨Q, hQ⟩ : ∃ Q : ByteArray, Q = ⟨(quoteL nm.data.toList).toArray⟩ := ⟨_, rfl⟩
  have qq : (Q.toList == Q.toList) = true := by simp
  have HQu := Lib.hid (fun W => quoted_any nm W (by omega))
  have HQr := Lib.hid (fun W => refQuoted_is nm W (by omega))
  rw [← hQ] at HQu HQr
  clear hA hS hG hQ hsm hpl
  go_enter Tryz.func3, Tryz.ntmps3
  go_wp2_with fail
  with_reducible refine HAw.out.mono ?_
  rintro e w1 ⟨rfl, hb1⟩
  have HB1 := Lib.hid hb1
  have HE1 := Lib.hid (HE.out.below hb1)
  clear hb1 HE HAw
  go_wp2_with fail
  with_reducible refine (HP.out w1 HE1.out).mono ?_
  rintro e w2 ⟨a2, n2, c2, rfl, hpr2, hb2⟩
  have HB2 := Lib.hid (HB1.out.trans (hb2.mono HB1.out.size))
  have HPr2 := Lib.hid hpr2
  clear hb2 hpr2 HP HE1
  go_wp2_with fail
  have HB2a := Lib.hid (HB2.out.alloc HB2.out.size (.cells #[.string A, .string S, .slice a2 n2 c2] 25))
  with_reducible refine (HR.out _).mono ?_
  rintro e w3 ⟨a3, n3, c3, rfl, hpr3, hb3⟩
  have HB3 := Lib.hid (HB2a.out.trans (hb3.mono HB2a.out.size))
  have HB23 := Lib.hid hb3
  have HPr3 := Lib.hid hpr3
  clear hb3 hpr3 HR
  have HB3a := Lib.hid (HB3.out.alloc HB3.out.size (.cells #[.string A, .string S, .slice a3 n3 c3] 30))
  have hal : Below w3.heap.size w3 (w3.alloc (.cells #[.string A, .string S, .slice a3 n3 c3] 30)) := (Below.refl _ _).alloc (Nat.le_refl _) _
  have HPr2a : Hid (prmAt (w3.alloc (.cells #[.string A, .string S, .slice a3 n3 c3] 30)) (.slice a2 n2 c2) ps) := (HPr2.out.below ((Below.refl _ _).alloc (Nat.le_refl _) _)).below (HB23.out.trans (hal.mono HB23.out.size))
  have HPr3a := Lib.hid (HPr3.out.below hal)
  obtain ⟨c80, c81, c82⟩ := box3_cells (HB23.out.trans (hal.mono HB23.out.size))
  obtain ⟨d80, d81, d82⟩ := box3_cells (Below.refl _ (w3.alloc (.cells #[.string A, .string S, .slice a3 n3 c3] 30)))
  have hl8 : w2.heap.size < w3.heap.size := by
    have := HB23.out.size
    simp at this
    omega
  have HG1 := Lib.hid (HGe.out _ _ HPr2a.out)
  clear hal
  go_wp2_with fail
  with_reducible refine HG1.out.mono ?_
  rintro e w4 ⟨rfl, hb4⟩
  have HB4 := Lib.hid (HB3a.out.trans (hb4.mono HB3a.out.size))
  have HPr24 := Lib.hid (HPr2a.out.below hb4)
  have HPr34 := Lib.hid (HPr3a.out.below hb4)
  replace c80 := (hb4.cell (p := ⟨w2.heap.size, 0, none⟩) (by simp; omega)).trans c80
  replace c81 := (hb4.cell (p := ⟨w2.heap.size, 1, none⟩) (by simp; omega)).trans c81
  replace c82 := (hb4.cell (p := ⟨w2.heap.size, 2, none⟩) (by simp; omega)).trans c82
  replace d80 := (hb4.cell (p := ⟨w3.heap.size, 0, none⟩) (by simp)).trans d80
  replace d81 := (hb4.cell (p := ⟨w3.heap.size, 1, none⟩) (by simp)).trans d81
  replace d82 := (hb4.cell (p := ⟨w3.heap.size, 2, none⟩) (by simp)).trans d82
  have hl4 : w3.heap.size < w4.heap.size := World.block_lt_of_cell? _ _ d80
  have HG2 := Lib.hid (HGr.out _ _ HPr34.out)
  clear hb4 HG1
  go_wp2_with fail
  with_reducible refine HG2.out.mono ?_
  rintro e w5 ⟨rfl, hb5⟩
  have HB5 := Lib.hid (HB4.out.trans (hb5.mono HB4.out.size))
  have HPr25 := Lib.hid (HPr24.out.below hb5)
  have HPr35 := Lib.hid (HPr34.out.below hb5)
  replace c80 := (hb5.cell (p := ⟨w2.heap.size, 0, none⟩) (by show w2.heap.size < _; omega)).trans c80
  replace c81 := (hb5.cell (p := ⟨w2.heap.size, 1, none⟩) (by show w2.heap.size < _; omega)).trans c81
  replace c82 := (hb5.cell (p := ⟨w2.heap.size, 2, none⟩) (by show w2.heap.size < _; omega)).trans c82
  replace d80 := (hb5.cell (p := ⟨w3.heap.size, 0, none⟩) hl4).trans d80
  replace d81 := (hb5.cell (p := ⟨w3.heap.size, 1, none⟩) hl4).trans d81
  replace d82 := (hb5.cell (p := ⟨w3.heap.size, 2, none⟩) hl4).trans d82
  have HM5 : Hid (∀ W, Below w5.heap.size w5 W → Calls Tryz.prog 13 #[.agg #[.string A, .string S, .slice a2 n2 c2]] W fun e w' => ∃ a n c, e = .returned (.agg #[.string A, .string S, .slice a n c]) ∧ prmAt w' (.slice a n c) ps ∧ Below W.heap.size W w') := fun W hb => HMo.out _ W (HPr25.out.below hb)
  have HS5 : Hid (∀ u W, prmAt W u ps → Below w5.heap.size w5 W → Calls Tryz.prog 12 #[.agg #[.string A, .string S, u], .agg #[.string A, .string S, .slice a3 n3 c3]] W fun e w' => e = .returned (.bool true) ∧ Below W.heap.size W w') := fun u W h hb => HSm.out u _ W h (HPr35.out.below hb)
  have hb00 : Below w5.heap.size w5 w5 := Below.refl _ _
  clear hb5 HG2
  go_wp2_with fail
  go_region_held (fun W' => W'.cell? ⟨w2.heap.size, 0, none⟩ = some (.string A) ∧ W'.cell? ⟨w2.heap.size, 1, none⟩ = some (.string S) ∧ W'.cell? ⟨w2.heap.size, 2, none⟩ = some (.slice a2 n2 c2) ∧ W'.cell? ⟨w3.heap.size, 0, none⟩ = some (.string A) ∧ W'.cell? ⟨w3.heap.size, 1, none⟩ = some (.string S) ∧ W'.cell? ⟨w3.heap.size, 2, none⟩ = some (.slice a3 n3 c3))
    (first | go_keep | (exact ⟨(BW.cell c80 ⟨_, by assumption⟩), (BW.cell c81 ⟨_, by assumption⟩), (BW.cell c82 ⟨_, by assumption⟩), (BW.cell d80 ⟨_, by assumption⟩), (BW.cell d81 ⟨_, by assumption⟩), (BW.cell d82 ⟨_, by assumption⟩)⟩))
    (first
      | (go_at_call 13; refine (HM5.out w5.drew ((Below.refl w5.heap.size w5).drew)).mono ?_; rintro e w6 ⟨a6, n6, c6, rfl, hpr6, hb6⟩; have hB6 : Below w5.heap.size w5 w6 := (Below.refl w5.heap.size w5).drew.trans (hb6.mono (Nat.le_refl _)))
      | (go_at_call 12; with_reducible refine (HS5.out _ _ (by assumption) (by assumption)).mono ?_; rintro e w7 ⟨rfl, hb7⟩; have hB7 : Below w5.heap.size w5 w7 := hB6.trans (hb7.mono hB6.size))
      | (go_at_call 14; with_reducible refine (HQu.out _).mono ?_; rintro e w8 ⟨rfl, hb8⟩; have hB8 : Below w5.heap.size w5 w8 := hB7.trans (hb8.mono hB7.size))
      | (go_at_call 15; with_reducible refine (HQr.out _).mono ?_; rintro e w9 ⟨rfl, rfl⟩))
  all_goals
    go_wp2_with fail
    go_ret
    exact ⟨rfl, HB5.out.trans (hB8.mono HB5.out.size)⟩
end Go.Proofs.YtcnihodikpcfkaaGreatDoor

/- Statement ParamsParses, for any texts. -/
namespace Go.Proofs.YtcnihodikpcfkaaGreatDoor
open Go Go.RowKit

set_option maxRecDepth 100000 in
set_option maxHeartbeats 4000000 in
theorem parses_long (s nm : ByteArray) (two : Bool) (w : World) (he : env w) (hl : 400 < s.size ∨ 100 < nm.size) (hs : s.size ≤ 9223372036854775807) (hn : nm.size ≤ 9223372036854775807) :
    Calls Tryz.prog 3 #[.string s, .bool two, .string nm] w fun e w' => e = .returned (.bool true) ∧ Below w.heap.size w w' := by
  have HAw := Lib.hid (awake_any w he)
  clear he
  by_cases h1 : 400 < s.size
  · have q1 : decide ((400 : Int) < (s.size : Int)) = true := decide_eq_true (by omega)
    have q2 : (400 : Int) < (s.size : Int) := by omega
    clear hl h1
    go_enter Tryz.func3, Tryz.ntmps3
    go_wp2_with fail
    with_reducible refine HAw.out.mono ?_
    rintro e w1 ⟨rfl, hb1⟩
    go_wp2_with fail
    go_ret
    exact ⟨rfl, hb1⟩
  · have h2 : 100 < nm.size := by omega
    have q1 : decide ((400 : Int) < (s.size : Int)) = false := decide_eq_false (by omega)
    have q2 : ¬ (400 : Int) < (s.size : Int) := by omega
    have q3 : decide ((100 : Int) < (nm.size : Int)) = true := decide_eq_true (by omega)
    have q4 : (100 : Int) < (nm.size : Int) := by omega
    clear hl h1 h2
    go_enter Tryz.func3, Tryz.ntmps3
    go_wp2_with fail
    with_reducible refine HAw.out.mono ?_
    rintro e w1 ⟨rfl, hb1⟩
    go_wp2_with fail
    go_ret
    exact ⟨rfl, hb1⟩
theorem paramsParses_any (s : ByteArray) (two : Bool) (nm : ByteArray) (w : World) (hs : s.size ≤ 9223372036854775807) (hn : nm.size ≤ 9223372036854775807) (he : env w) :
    Calls Tryz.prog 3 #[.string s, .bool two, .string nm] w fun e w' => e = .returned (.bool true) ∧ Below w.heap.size w w' := by
  by_cases hl : 400 < s.size ∨ 100 < nm.size
  · exact parses_long s nm two w he hl hs hn
  · have h1 : s.size ≤ 400 := by omega
    have h2 : nm.size ≤ 100 := by omega
    cases hV : parseL s.data.toList two with
    | none =>
      exact parses_core s nm two false [] [] [] w he h1 h2 (fun p hp => absurd hp (by simp)) (Nat.zero_le _) (fun W h => parse_none s two hV W (by omega) h) (fun W => refParse_none s two hV W (by omega))
    | some V =>
      refine parses_core s nm two true V.type V.sub V.params w he h1 h2 (fun p hp => ?_) ?_ (fun W h => parse_some s two V hV W (by omega) h) (fun W => refParse_some s two V hV W (by omega))
      · have := parse_short hV p hp
        rw [len_toList] at this
        omega
      · have := parse_few hV
        rw [len_toList] at this
        omega
end Go.Proofs.YtcnihodikpcfkaaGreatDoor
