/- A small law of my own, of no function: bytes that came in, nil or not, appended to a row of the call's own. -/
import Derived.Test.YteallnjbpikhhaaGreatDoorKit2
import Derived.Laws.OwnMore
import Derived.OwnWalk
import Derived.Test.YteallnjbpikhhaaGreatDoorGbHdrG
import Derived.Lib.AppendStr
namespace Go.Proofs.YteallnjbpikhhaaGreatDoor
open Go Go.RowKit

theorem run_append_none_any {P : Program} {w : World} (base : Nat) (t ty e : TypeId) (i : TypeInfo) (size c : Nat) (ht : P.underlying t = some (.slice e)) (hi : P.info? e = some i)
    (v : Value) (n : Nat) (xs : List Value) (hown : w.ownsRow base e size v n xs) :
    (Builtin.append_ #[t, t] ty #[v, .slice none 0 c]).run P w = .ok v w := by
  rcases hown.2 with ⟨rfl, rfl⟩ | ⟨g, cap, cur, rfl, _, _, hnc, _⟩
  · simp [Builtin.append_, run_underlying ht, sizeOf, typeInfo, hi, Builtin.lenOf, Builtin.firstCells]
  · simp [Builtin.append_, run_underlying ht, sizeOf, typeInfo, hi, Builtin.lenOf, Builtin.firstCells, hnc, storeCells]

theorem wpList_append_bytes {P : Program} {w : World} {ops : Array Oper} {rest : List Oper} {o : Oper} {a : Act} {Q : Exit → Act → World → Prop} (hgd : o.guard = none) (s x : Operand) (t : TypeId)
    (ho : o.op = .call { callee := .builtin .append, args := #[s, x], argTypes := #[t, t] })
    (base : Nat) (e : TypeId) (i : TypeInfo) (ht : P.underlying t = some (.slice e)) (hi : P.info? e = some i) (hz : i.zero = some (.int .u8 0)) (hsize : i.size = 1) (hby : i.bytes = 1)
    (v : Value) (n : Nat) (xs : List Value) (hs : a.eval s = v) (hown : w.ownsRow base e 1 v n xs)
    (ao : Option Addr) (c : Nat) (l : List UInt8) (hx : a.eval x = .slice ao l.length c) (hsl : sliceAt w ao l) (h63 : n + l.length ≤ 1048576) (hbase : base ≤ w.heap.size)
    (h : ∀ v' w', w'.ownsRow base e 1 v' (n + l.length) (xs ++ l.map byteV) → w.grownBy w' v.ownBlock → wpList P ops Q rest (a.put o.dst v') w') : wpList P ops Q (o :: rest) a w := by
  rcases ao with _ | ad
  · obtain rfl : l = [] := by
      rcases hsl with h | ⟨b, off, h, _⟩
      · exact h
      · cases h
    refine wpList_plain hgd fun K hK => ?_
    have hrun := run_append_none_any (P := P) (w := w) base t o.type e i 1 c ht hi v n xs hown
    have hx' : a.eval x = .slice none 0 c := hx
    unfold Oper.wp
    simp [execOp, ho, resolve, invoke, builtin, hs, hx', hrun, Result.andThen]
    refine hK _ _ (h v w ?_ (World.grownBy.refl _ _))
    simpa using hown
  · refine wpList_append_own _ hgd s x t ho base e i (.int .u8 0) 1 1 ht hi hz hsize hby rfl (by decide) v n xs hs hown ad l.length c (l.map byteV) hx (by simp) ?_ (news_one l) (by unfold maxLen; omega) (by omega) hbase (fun v' w' h1 h2 _ => h v' w' h1 h2)
    rcases hsl with rfl | ⟨b, off, e', hlt, hc⟩
    · intro j u hu
      simp at hu
    · cases e'
      exact sliceAt.news (.inr ⟨b, off, rfl, hlt, hc⟩)
end Go.Proofs.YteallnjbpikhhaaGreatDoor

/- Contracts of package header: Some. -/
namespace Go.Proofs.YteallnjbpikhhaaGreatDoor
open Go Go.RowKit

def endsB (p : List UInt8) : Bool := decide (0 < p.length ∧ p.getD (p.length - 1) 0 = 10)
/-- A field's bytes, and an end where they have none. -/
def fpcL (l : List UInt8) (x : Fld) : List UInt8 := partS l x.f x.t ++ (if endsB (partS l x.f x.t) = true then [] else [13, 10])
def keepB (ns : List ByteArray) (but : Bool) (x : Fld) : Bool := !(inS ns x.nm == but)
def piecesL (l : List UInt8) (ns : List ByteArray) (but : Bool) (fs : List Fld) : List UInt8 := ((fs.filter (keepB ns but)).map (fpcL l)).flatten
def someS (l : List UInt8) (fs : List Fld) (ns : List ByteArray) (but : Bool) : List UInt8 := piecesL l ns but fs ++ [13, 10]
theorem piecesL_app (l : List UInt8) (ns : List ByteArray) (but : Bool) (a b : List Fld) : piecesL l ns but (a ++ b) = piecesL l ns but a ++ piecesL l ns but b := by
  unfold piecesL
  rw [List.filter_append, List.map_append, List.flatten_append]
theorem piecesL_yes {l : List UInt8} {ns : List ByteArray} {but : Bool} {fs : List Fld} {i : Nat} (h : i < fs.length) (hk : keepB ns but fs[i] = true) : piecesL l ns but (fs.take (i + 1)) = piecesL l ns but (fs.take i) ++ fpcL l fs[i] := by
  rw [List.take_succ_eq_append_getElem h, piecesL_app]
  congr 1
  unfold piecesL
  rw [List.filter_cons_of_pos hk]
  simp
theorem piecesL_no {l : List UInt8} {ns : List ByteArray} {but : Bool} {fs : List Fld} {i : Nat} (h : i < fs.length) (hk : keepB ns but fs[i] = false) : piecesL l ns but (fs.take (i + 1)) = piecesL l ns but (fs.take i) := by
  rw [List.take_succ_eq_append_getElem h, piecesL_app]
  have : piecesL l ns but [fs[i]] = [] := by
    unfold piecesL
    rw [List.filter_cons_of_neg (by rw [hk]; decide)]
    rfl
  rw [this, List.append_nil]
theorem piecesL_len (l : List UInt8) (ns : List ByteArray) (but : Bool) (fs : List Fld) (k : Nat) : (piecesL l ns but (fs.take k)).length ≤ (piecesL l ns but fs).length := by
  have : piecesL l ns but fs = piecesL l ns but (fs.take k) ++ piecesL l ns but (fs.drop k) := by rw [← piecesL_app, List.take_append_drop]
  rw [this, List.length_append]
  omega
theorem suffix_10 (p : List UInt8) : Lib.hasSuffix p [10] = endsB p := by
  unfold Lib.hasSuffix endsB
  rw [Bool.eq_iff_iff, List.isSuffixOf_iff_suffix, decide_eq_true_iff]
  constructor
  · rintro ⟨t, rfl⟩
    simp [List.getD]
  · rintro ⟨h1, h2⟩
    refine ⟨p.take (p.length - 1), ?_⟩
    rw [List.getD_eq_getElem?_getD, List.getElem?_eq_getElem (by omega)] at h2
    simp only [Option.getD_some] at h2
    have := List.take_succ_eq_append_getElem (l := p) (i := p.length - 1) (by omega)
    rw [h2, show p.length - 1 + 1 = p.length by omega, List.take_length] at this
    exact this.symm
theorem ends_any (po : Option Addr) (n c B : Nat) (p : List UInt8) (w : World) (hn : p.length = n) (hc : n ≤ c) (hm : c ≤ maxLen) (hs : sliceAt w po p) (hB : sliceAt w (some ⟨B, 0, none⟩) [10]) :
    Calls Tryz.prog 86 #[.slice po n c, .slice (some ⟨B, 0, none⟩) 1 1] w fun e w' => e = .returned (.bool (endsB p)) ∧ w = w' := by
  subst hn
  refine (Tryz.bytes_HasSuffix_all po (some ⟨B, 0, none⟩) p.length c 1 1 (intsOf p) (intsOf [10]) w (intsOf_len p) (intsOf_len [10]) hc (by unfold maxLen at hm; omega) hs.ints hB.ints).mono ?_
  rintro e w' ⟨rfl, rfl⟩
  rw [bytesOf_ints, bytesOf_ints, suffix_10]
  exact ⟨rfl, rfl⟩
/-- Fields within the bytes. -/
def inF (l : List UInt8) (fs : List Fld) : Prop := ∀ x ∈ fs, x.f ≤ x.t ∧ x.t ≤ l.length

theorem strsArg.below {W W' : World} {v : Value} {ls : List ByteArray} (h : strsArg W v ls) (hb : Below W.heap.size W W') : strsArg W' v ls := by
  obtain ⟨ao, cap, e, h1, h2, h3, h4⟩ := h
  refine ⟨ao, cap, e, h1, h2, h3, h4.imp id ?_⟩
  rintro ⟨b, off, e, hlt, hc⟩
  exact ⟨b, off, e, Nat.lt_of_lt_of_le hlt hb.size, fun j hj => (hb.cell (p := ⟨b, off + j, none⟩) hlt).trans (hc j hj)⟩
theorem box4_cells {W W' : World} {t : TypeId} {a b c d : Value} (h : Below (W.alloc (.cells #[a, b, c, d] t)).heap.size (W.alloc (.cells #[a, b, c, d] t)) W') :
    W'.cell? ⟨W.heap.size, 0, none⟩ = some a ∧ W'.cell? ⟨W.heap.size, 1, none⟩ = some b ∧ W'.cell? ⟨W.heap.size, 2, none⟩ = some c ∧ W'.cell? ⟨W.heap.size, 3, none⟩ = some d := by
  have e : W'.heap[W.heap.size]? = some (.cells #[a, b, c, d] t (0, 0)) := (h.block _ (by simp)).trans (heap_alloc_new W _)
  simp [World.cell?, e]
theorem keepB_yes {ns : List ByteArray} {but z : Bool} {x : Fld} (hz : z = inS ns x.nm) (h : (z == but) = false) : keepB ns but x = true := by
  unfold keepB
  rw [← hz, h]
  rfl
theorem keepB_no {ns : List ByteArray} {but z : Bool} {x : Fld} (hz : z = inS ns x.nm) (h : (z == but) = true) : keepB ns but x = false := by
  unfold keepB
  rw [← hz, h]
  rfl
set_option maxRecDepth 100000 in
set_option maxHeartbeats 4000000 in
theorem some_any (v vf vn : Value) (l : List UInt8) (fs : List Fld) (ns : List ByteArray) (but : Bool) (w : World) (hv : bytesArg w v l) (hf : rowF w vf fs) (hn : strsArg w vn ns) (hs : shortF fs) (hi : inF l fs) (hlen : (piecesL l ns but fs).length ≤ 1048000) :
    Calls Tryz.prog 55 #[v, vf, vn, .bool but] w fun e w' => ∃ u, e = .returned u ∧ w'.ownsRow w.heap.size 5 1 u (someS l fs ns but).length ((someS l fs ns but).map byteV) ∧ Below w.heap.size w w' := by
  have HV := Lib.hid hv
  obtain ⟨ao, cap, rfl, hc, hm, hsl⟩ := hv
  obtain ⟨fo, fc, rfl, hfc, hfm, hfcell⟩ := hf.at
  have HFC := Lib.hid hfcell
  have HN := Lib.hid hn
  obtain ⟨no, nc, rfl, hnc, hnm, _⟩ := hn.at
  unfold maxLen at hm hfm hnm
  have HS := Lib.hid hs
  have HI := Lib.hid hi
  obtain ⟨i0, hi0, hz0, hz1, hz2⟩ := info_parts Tryz.infoB
  have HI0 := Lib.hid hi0
  have HZ0 := Lib.hid hz0
  have HZ1 := Lib.hid hz1
  have HZ2 := Lib.hid hz2
  clear hf hn hsl hfcell hs hi hi0 hz0 hz1 hz2
  go_enter Tryz.func55, Tryz.ntmps55
  go_wp2_with fail
  go_loopg [9, 16] fs.length (fun q sv xi wr => ∃ (i : Nat), i ≤ fs.length ∧ q = fs.length - i ∧ xi = .int .i64 i ∧ Hid (wr.ownsRow w.heap.size 5 1 sv (piecesL l ns but (fs.take i)).length ((piecesL l ns but (fs.take i)).map byteV)) ∧ Hid (Below w.heap.size w wr))
  case atStart => exact ⟨0, Nat.zero_le _, by omega, rfl, World.ownsRow_nil _ _ _ _, Below.refl _ _⟩
  case round =>
    obtain ⟨i, hile, rfl, rfl, HO, HB⟩ := hrel
    by_cases hlt : i < fs.length
    · obtain ⟨g, rfl, hg, c0, c1, c2, c3⟩ := HFC.out i hlt
      have hsx := HS.out fs[i] (List.getElem_mem hlt)
      obtain ⟨hx1, hx2⟩ := HI.out fs[i] (List.getElem_mem hlt)
      have HY := Lib.hid (fun h => piecesL_yes (l := l) (ns := ns) (but := but) hlt h)
      have HNo := Lib.hid (fun h => piecesL_no (l := l) (ns := ns) (but := but) hlt h)
      have hpl := piecesL_len l ns but fs (i + 1)
      obtain ⟨x, hx⟩ : ∃ x, x = fs[i] := ⟨_, rfl⟩
      rw [← hx] at c0 c1 c2 c3 hsx hx1 hx2 HY HNo
      replace c0 := (HB.out.cell (p := ⟨g, i * 4, none⟩) hg).trans c0
      replace c1 := (HB.out.cell (p := ⟨g, i * 4 + 1, none⟩) hg).trans c1
      replace c2 := (HB.out.cell (p := ⟨g, i * 4 + 2, none⟩) hg).trans c2
      replace c3 := (HB.out.cell (p := ⟨g, i * 4 + 3, none⟩) hg).trans c3
      have hsz : w.heap.size ≤ wr.heap.size := HB.out.size
      obtain ⟨pre, hpre⟩ : ∃ pre, pre = piecesL l ns but (fs.take i) := ⟨_, rfl⟩
      rw [← hpre] at HO HY HNo
      clear hx hpre
      go_wp2_with fail
      with_reducible refine (among_in _ ns x.nm wr.heap.size _ ?h1 ?h2 hsx).mono ?_
      case h1 => exact strsArg.below HN.out (HB.out.alloc HB.out.size _)
      case h2 => simp
      rintro e w1 ⟨rfl, q, rfl⟩
      obtain ⟨w2, hw2⟩ : ∃ w2, (wr.alloc (.cells #[.string ⟨x.nm.toArray⟩, .int .i64 (x.f : Int), .int .i64 (x.b : Int), .int .i64 (x.t : Int)] 87)).drewN q = w2 := ⟨_, rfl⟩
      have hb12 : Below (wr.alloc (.cells #[.string ⟨x.nm.toArray⟩, .int .i64 (x.f : Int), .int .i64 (x.b : Int), .int .i64 (x.t : Int)] 87)).heap.size (wr.alloc (.cells #[.string ⟨x.nm.toArray⟩, .int .i64 (x.f : Int), .int .i64 (x.b : Int), .int .i64 (x.t : Int)] 87)) w2 := by rw [← hw2]; exact below_drewN' q
      rw [hw2]
      clear hw2 c0 c1 c2 c3
      obtain ⟨d0, d1, d2, d3⟩ := box4_cells hb12
      have HB2 : Hid (Below w.heap.size w w2) := (HB.out.alloc HB.out.size _).trans (hb12.mono (by simp; omega))
      have HO2 := Lib.hid (ownsRow_below (HO.out.alloc (.cells #[.string ⟨x.nm.toArray⟩, .int .i64 (x.f : Int), .int .i64 (x.b : Int), .int .i64 (x.t : Int)] 87)) hb12)
      have hBf : wr.heap.size < w2.heap.size := World.block_lt_of_cell? _ _ d0
      obtain ⟨Bf, hBfe⟩ : ∃ Bf, Bf = wr.heap.size := ⟨_, rfl⟩
      rw [← hBfe] at d0 d1 d2 d3 hBf ⊢
      clear hb12 HO HB hBfe
      obtain ⟨z, hz⟩ : ∃ z, z = inS ns x.nm := ⟨_, rfl⟩
      rw [← hz]
      rcases Bool.eq_false_or_eq_true (z == but) with hk | hk
      · have HPn := Lib.hid (HNo.out (keepB_no hz hk))
        clear hz HY HNo
        go_wp2_with fail
        go_roundg (fs.length - (i + 1))
        case measure => omega
        case rel => exact ⟨i + 1, by omega, rfl, by go_num, by rw [HPn.out]; exact HO2, HB2⟩
      · have HPn := Lib.hid (HY.out (keepB_yes hz hk))
        have hpl2 : (pre ++ fpcL l x).length ≤ 1048000 := by rw [← HPn.out]; omega
        have HWi := Lib.hid (fun W => within_any (x.f : Int) (x.t : Int) (l.length : Int) W)
        rw [withinB_yes (by omega)] at HWi
        clear hz HY HNo hpl
        go_wp2_with fail
        with_reducible refine (HWi.out _).mono ?_
        rintro e w3 ⟨rfl, hb3⟩
        replace d0 := (hb3.cell (p := ⟨Bf, 0, none⟩) hBf).trans d0
        replace d1 := (hb3.cell (p := ⟨Bf, 1, none⟩) hBf).trans d1
        replace d3 := (hb3.cell (p := ⟨Bf, 3, none⟩) hBf).trans d3
        have HB3 := Lib.hid (HB2.out.trans (hb3.mono HB2.out.size))
        have HO3 := Lib.hid (ownsRow_below HO2.out hb3)
        obtain ⟨P, hP⟩ : ∃ P, P = partS l x.f x.t := ⟨_, rfl⟩
        have hPl : P.length = x.t - x.f := by rw [hP]; exact partS_len l hx2
        have HPc : Hid (fpcL l x = P ++ (if endsB P = true then [] else [13, 10])) := by rw [hP]; rfl
        have HP := Lib.hid hP
        have HPl := Lib.hid hPl
        have hPl1 : P.length ≤ x.t - x.f := by omega
        have hPl2 : x.t - x.f ≤ P.length := by omega
        clear hb3 HB2 HO2 d2 hP hPl
        go_upto_region 7 with fail
        go_cut [13] (fun pv wx => ∃ po pc, pv = .slice po P.length pc ∧ P.length ≤ pc ∧ pc ≤ 2 ^ 63 - 1 ∧ Hid (sliceAt w po P) ∧ w3 = wx)
        case first =>
          obtain ⟨_, _, e0, _, _, hsl⟩ := HV.out
          cases e0
          by_cases hcF : cap = x.f
          · have hPn : Hid (sliceAt w ao P) := .inl (List.eq_nil_of_length_eq_zero (by omega))
            subst hcF
            go_wp2_with fail
            go_meet
            exact ⟨ao, 0, by rw [HPl.out], by omega, by omega, hPn, rfl⟩
          · have hPn : Hid (sliceAt w (ao.map fun a => a.add x.f) P) := by rw [HP.out]; exact sliceAt.cut hsl x.f x.t
            clear hsl
            go_wp2_with fail
            go_meet
            exact ⟨_, cap - x.f, by rw [HPl.out], by omega, by omega, hPn, rfl⟩
        case rest =>
          obtain ⟨po, pc, rfl, hpc, hpm, HSP, rfl⟩ := hcut
          have hplen : pre.length + P.length + 2 ≤ 1048500 := by
            rw [HPc.out, List.length_append, List.length_append] at hpl2
            omega
          have hsz3 : w.heap.size ≤ w3.heap.size := HB3.out.size
          go_wp2_with (at_builtin; refine wpList_append_bytes rfl _ _ 22 rfl w.heap.size 5 i0 Tryz.underlying22 HI0.out HZ0.out HZ1.out HZ2.out _ _ _ rfl HO3.out po pc P rfl (sliceAt.below HSP.out HB3.out) (by omega) (by omega) ?_)
          intro v4 w4 hown4 hgrow4
          have HO4 : Hid (w4.ownsRow w.heap.size 5 1 v4 (pre ++ P).length ((pre ++ P).map byteV)) := own_cast hown4 (by simp) (by simp)
          have HB4 : Hid (Below w.heap.size w w4) := HB3.out.grown hgrow4 hsz3 (fun q hq => (HO3.out.lt q hq).1)
          have hsz4 : w.heap.size ≤ w4.heap.size := HB4.out.size
          clear hown4 hgrow4 HO3 HB3 d0 d1 d3
          go_wp2_with fail
          with_reducible refine (ends_any po P.length pc w4.heap.size P _ rfl hpc (by unfold maxLen; omega) ?h5 ?h6).mono ?_
          case h5 => exact sliceAt.below HSP.out (HB4.out.alloc HB4.out.size _)
          case h6 => exact sliceAt_new w4 _ _ _ [10] rfl
          rintro e w5 ⟨rfl, rfl⟩
          rcases Bool.eq_false_or_eq_true (endsB P) with he | he
          · have HF : Hid (piecesL l ns but (fs.take (i + 1)) = pre ++ P) := by
              unfold Hid
              rw [HPn.out, HPc.out, if_pos he, List.append_nil]
            rw [he]
            go_wp2_with fail
            go_roundg (fs.length - (i + 1))
            case measure => omega
            case rel => exact ⟨i + 1, by omega, rfl, by go_num, by rw [HF.out]; exact HO4.out.alloc _, HB4.out.alloc HB4.out.size _⟩
          · have HF : Hid (piecesL l ns but (fs.take (i + 1)) = pre ++ P ++ [13, 10]) := by
              unfold Hid
              rw [HPn.out, HPc.out, if_neg (by rw [he]; decide), List.append_assoc]
            rw [he]
            go_wp2_with (at_builtin; refine Lib.wpList_append_own_string _ rfl _ _ 22 9 rfl w.heap.size 5 i0 Tryz.underlying22 Tryz.underlying9 HI0.out HZ0.out HZ1.out HZ2.out _ _ _ rfl (HO4.out.alloc _) ⟨#[13, 10]⟩ rfl ?c1 ?c2 ?c3 ?_)
            case c1 => unfold maxLen; show (pre ++ P).length + 2 ≤ _; rw [List.length_append]; omega
            case c2 => show (pre ++ P).length + 2 ≤ _; rw [List.length_append]; omega
            case c3 => simp; omega
            intro v6 w6 hown6 hgrow6 _
            have HO6 : Hid (w6.ownsRow w.heap.size 5 1 v6 (pre ++ P ++ [13, 10]).length ((pre ++ P ++ [13, 10]).map byteV)) := own_cast hown6 (by simp; omega) (by simp [Lib.strCells, byteV])
            have HB6 : Hid (Below w.heap.size w w6) := (HB4.out.alloc HB4.out.size _).grown hgrow6 (by simp; omega) (fun q hq => (HO4.out.lt q hq).1)
            clear hown6 hgrow6
            go_wp2_with fail
            go_roundg (fs.length - (i + 1))
            case measure => omega
            case rel => exact ⟨i + 1, by omega, rfl, by go_num, by rw [HF.out]; exact HO6, HB6⟩
    · obtain rfl : i = fs.length := by omega
      have HF : Hid (wr.ownsRow w.heap.size 5 1 u9 (piecesL l ns but fs).length ((piecesL l ns but fs).map byteV)) := by
        have := HO.out
        rwa [List.take_length] at this
      have hsz : w.heap.size ≤ wr.heap.size := HB.out.size
      clear HO
      go_wp2_with (at_builtin; refine Lib.wpList_append_own_string _ rfl _ _ 22 9 rfl w.heap.size 5 i0 Tryz.underlying22 Tryz.underlying9 HI0.out HZ0.out HZ1.out HZ2.out _ _ _ rfl HF.out ⟨#[13, 10]⟩ rfl ?c4 ?c5 ?c6 ?_)
      case c4 => unfold maxLen; show _ + 2 ≤ _; omega
      case c5 => show _ + 2 ≤ _; omega
      case c6 => omega
      intro v6 w6 hown6 hgrow6 _
      have HO6 : Hid (w6.ownsRow w.heap.size 5 1 v6 (someS l fs ns but).length ((someS l fs ns but).map byteV)) := own_cast hown6 (by simp [someS]) (by simp [someS, Lib.strCells, byteV])
      have HB6 : Hid (Below w.heap.size w w6) := HB.out.grown hgrow6 hsz (fun q hq => (HF.out.lt q hq).1)
      clear hown6 hgrow6
      go_wp2_with fail
      go_ret
      exact ⟨v6, rfl, HO6.out, HB6.out⟩
end Go.Proofs.YteallnjbpikhhaaGreatDoor
