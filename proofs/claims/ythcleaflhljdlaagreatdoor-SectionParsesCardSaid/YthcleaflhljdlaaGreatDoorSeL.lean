/- Contracts of package section: Put's pieces. -/
import Derived.Test.YthcleaflhljdlaaGreatDoorSeJ
import Derived.Test.YthcleaflhljdlaaGreatDoorSeC
import Derived.Lib.ItoaLen
namespace Go.Proofs.YthcleaflhljdlaaGreatDoor
open Go Go.RowKit

def wsW (ws : List (List UInt8)) : Nat := (ws.map (fun w => w.length + 1)).sum
theorem wsW_cons (w : List UInt8) (ws : List (List UInt8)) : wsW (w :: ws) = w.length + 1 + wsW ws := by simp [wsW]
theorem wsW_app (a b : List (List UInt8)) : wsW (a ++ b) = wsW a + wsW b := by simp [wsW]
theorem join_len (sep : List UInt8) (h : sep.length ≤ 1) : ∀ (ws : List (List UInt8)), (Lib.join ws sep).length ≤ wsW ws
  | [] => by simp [Lib.join_nil, wsW]
  | x :: ws => by
    rw [Lib.join_cons, wsW_cons, List.length_append]
    have : ∀ r : List (List UInt8), (Lib.joinTail sep r).length ≤ wsW r := by
      intro r
      induction r with
      | nil => simp [Lib.joinTail, wsW]
      | cons y r ih =>
        rw [wsW_cons]
        have e : Lib.joinTail sep (y :: r) = sep ++ y ++ Lib.joinTail sep r := by simp [Lib.joinTail]
        rw [e, List.length_append, List.length_append]
        omega
    have := this ws
    omega
theorem wsW_le (m : Nat) : ∀ ws : List (List UInt8), (∀ a ∈ ws, a.length ≤ m) → wsW ws ≤ ws.length * (m + 1)
  | [], _ => by simp [wsW]
  | x :: ws, h => by
    have h1 := h x (List.mem_cons_self ..)
    have h2 := wsW_le m ws (fun a ha => h a (List.mem_cons_of_mem _ ha))
    rw [wsW_cons, List.length_cons, Nat.add_mul, Nat.one_mul]
    omega
/-- strings.Join of an own row of words. -/
theorem joinS_any (v : Value) (ws : List (List UInt8)) (sep : ByteArray) (base : Nat) (w : World) (h : w.ownsRow base 9 1 v ws.length (ws.map strV)) (hw : wsW ws ≤ 100000000000000) (hs : sep.data.toList.length ≤ 1) :
    Calls Tryz.prog 42 #[v, .string sep] w fun e w' => e = .returned (.string ⟨(Lib.join ws sep.data.toList).toArray⟩) ∧ Below w.heap.size w w' := by
  have hj := join_len sep.data.toList hs ws
  have hwl : ws.length ≤ wsW ws := by
    clear h hw hj
    induction ws with
    | nil => exact Nat.le_refl _
    | cons x ws ih => rw [wsW_cons, List.length_cons]; omega
  rcases h.2 with ⟨rfl, h0⟩ | ⟨g, cap, cur, rfl, _, hh, hc, hm, hsz, ht⟩
  · obtain rfl : ws = [] := List.eq_nil_of_length_eq_zero h0
    exact (Tryz.strings_Join_none none 0 sep w).mono fun e w' ⟨he, hw'⟩ => ⟨he, by rw [hw']; exact Below.refl _ _⟩
  · have hx : (ws.map (fun l => (⟨l.toArray⟩ : ByteArray))).map (·.data.toList) = ws := by
      rw [List.map_map]
      exact List.map_id'' (fun l => rfl) ws
    have := Tryz.strings_Join g 0 cap (ws.map (fun l => (⟨l.toArray⟩ : ByteArray))) sep w ?_ (Array.getElem?_eq_some_iff.1 hh).1 (by rw [List.length_map]; omega) (by rw [List.length_map]; exact hc) (by rw [hx]; omega)
    · rw [hx, List.length_map] at this
      exact this
    · intro j x hx2
      rw [List.getElem?_map] at hx2
      cases hj2 : ws[j]? with
      | none => rw [hj2] at hx2; cases hx2
      | some l =>
        rw [hj2] at hx2
        cases hx2
        have hjl : j < ws.length := (List.getElem?_eq_some_iff.1 hj2).1
        have e1 : (ws.map strV)[j]? = some (strV l) := by rw [List.getElem?_map, hj2]; rfl
        rw [← ht, List.getElem?_take, if_pos (by omega)] at e1
        simp only [World.cell?, hh]
        simpa [strV] using e1

def atomS (a : List UInt8) : Bool := a.all atomB && !a.isEmpty
def nameT (a : List UInt8) : List UInt8 := if atomS a = true then a else quoteL a
def askT (s : Spc) : List UInt8 := Lib.join (s.path.map Lib.itoa ++ (if s.what = 0 then [] else [wordL s.what.toNat])) [46]
def nmsT (ns : List (List UInt8)) : List UInt8 := if ns = [] then [] else [32, 40] ++ (Lib.join (ns.map nameT) [32] ++ [41])
def cutT (s : Spc) (answer : Bool) : List UInt8 := if s.cut = false then [] else if answer = true then [60] ++ (Lib.itoa s.frm ++ [62]) else [60] ++ (Lib.itoa s.frm ++ ([46] ++ (Lib.itoa s.many ++ [62])))
def putS (s : Spc) (answer : Bool) : List UInt8 := if checkS s = true then [91] ++ (askT s ++ (nmsT s.names ++ ([93] ++ cutT s answer))) else []

set_option maxRecDepth 100000 in
set_option maxHeartbeats 1000000 in
theorem isAtom_any (s : ByteArray) (w : World) (hl : s.size ≤ 9223372036854775807) :
    Calls Tryz.prog 55 #[.string s] w fun e w' => e = .returned (.bool (atomS s.data.toList)) ∧ Below w.heap.size w w' := by
  have HA := Lib.hid atomC_any
  go_enter Tryz.func55, Tryz.ntmps55
  go_wp2_with fail
  go_loopg [6] s.size (fun q xi wr => ∃ i : Nat, i ≤ s.size ∧ q = s.size - i ∧ xi = .int .i64 (i : Int) ∧ Hid ((s.data.toList.take i).all atomB = true) ∧ Hid (Below w.heap.size w wr))
  case atStart => exact ⟨0, by omega, by omega, rfl, rfl, Below.refl _ _⟩
  case round =>
    obtain ⟨i, hi, rfl, rfl, HS, HB⟩ := hrel
    by_cases hlt : i < s.size
    · have HT : Hid ((s.data.toList.take (i + 1)).all atomB = atomB s[i]) := by
        unfold Hid
        rw [take_snoc s i hlt, List.all_append, HS.out]
        simp
      have HF : Hid (atomB s[i] = false → s.data.toList.all atomB = false) := fun h => all_no (l := s.data.toList) (i := i) (by simpa using hlt) h
      have HAi := Lib.hid (HA.out s[i] wr)
      rcases Bool.eq_false_or_eq_true (atomB s[i]) with hb | hb
      · rw [hb] at HAi
        go_wp2_with (go_at_call 65; refine HAi.out.mono ?_; rintro e w2 ⟨rfl, hb2⟩)
        go_roundg (s.size - (i + 1))
        case measure => omega
        case rel => exact ⟨i + 1, by omega, rfl, by go_num, by unfold Hid; rw [HT.out, hb], HB.out.trans (hb2.mono HB.out.size)⟩
      · rw [hb] at HAi
        go_wp2_with (go_at_call 65; refine HAi.out.mono ?_; rintro e w2 ⟨rfl, hb2⟩)
        go_ret
        exact ⟨ret_bool (by unfold atomS; rw [HF.out hb]; rfl), HB.out.trans (hb2.mono HB.out.size)⟩
    · have HX : Hid (s.data.toList.all atomB = true) := all_end (i := i) (by simpa using hlt) HS.out
      by_cases h0 : s.size = 0
      · have hem : s.toList = [] := (toList_nil_iff s).2 h0
        have HE : Hid (s.data.toList.isEmpty = true ∧ s.toList.isEmpty = true) := ⟨by rw [List.isEmpty_iff]; exact List.eq_nil_of_length_eq_zero (by rw [len_toList]; exact h0), by rw [hem]; rfl⟩
        clear hem
        go_wp2_with fail
        go_ret
        exact ⟨ret_bool (by unfold atomS; rw [HX.out, HE.out.1, HE.out.2]; rfl), HB.out⟩
      · have HE : Hid (s.data.toList.isEmpty = false ∧ s.toList.isEmpty = false) := by
          have h1 : s.data.toList ≠ [] := fun h => h0 (by rw [← len_toList, h]; rfl)
          refine ⟨by simpa using h1, ?_⟩
          rw [ByteArray.toList_eq]
          simpa using h1
        go_wp2_with fail
        go_ret
        exact ⟨ret_bool (by unfold atomS; rw [HX.out, HE.out.1, HE.out.2]; rfl), HB.out⟩
set_option maxRecDepth 100000 in
set_option maxHeartbeats 1000000 in
theorem nameText_any (a : List UInt8) (w : World) (hl : a.length ≤ 1000000000) :
    Calls Tryz.prog 43 #[.string ⟨a.toArray⟩] w fun e w' => e = .returned (strV (nameT a)) ∧ Below w.heap.size w w' := by
  have hsz : (⟨a.toArray⟩ : ByteArray).size ≤ 1000000000 := by show a.toArray.size ≤ _; simpa using hl
  have HA := Lib.hid (fun W => isAtom_any ⟨a.toArray⟩ W (by omega))
  have HQ := Lib.hid (fun W => quoted_any ⟨a.toArray⟩ W hsz)
  have e1 : (⟨a.toArray⟩ : ByteArray).data.toList = a := by simp
  rw [e1] at HA HQ
  clear e1
  rcases Bool.eq_false_or_eq_true (atomS a) with hb | hb
  · have HE : Hid (nameT a = a) := by unfold Hid nameT; rw [if_pos hb]
    rw [hb] at HA
    go_enter Tryz.func43, Tryz.ntmps43
    go_wp2_with fail
    with_reducible refine (HA.out _).mono ?_
    rintro e w2 ⟨rfl, hb2⟩
    go_wp2_with fail
    go_ret
    exact ⟨by rw [HE.out]; rfl, hb2⟩
  · have HE : Hid (nameT a = quoteL a) := by unfold Hid nameT; rw [hb]; rfl
    rw [hb] at HA
    go_enter Tryz.func43, Tryz.ntmps43
    go_wp2_with fail
    with_reducible refine (HA.out _).mono ?_
    rintro e w2 ⟨rfl, hb2⟩
    have HB2 := Lib.hid hb2
    clear hb2
    go_wp2_with fail
    with_reducible refine (HQ.out _).mono ?_
    rintro e w3 ⟨rfl, hb3⟩
    go_wp2_with fail
    go_ret
    exact ⟨by rw [HE.out]; rfl, HB2.out.trans (hb3.mono HB2.out.size)⟩
theorem nameT_len (a : List UInt8) : (nameT a).length ≤ 2 * a.length + 2 := by
  unfold nameT
  split
  · omega
  · have := escL_len a
    have h2 := List.countP_le_length (p := hitB) (l := a)
    simp only [quoteL, List.length_append, this]
    simp
    omega
set_option maxRecDepth 100000 in
set_option maxHeartbeats 2000000 in
theorem namesText_any (ns : List (List UInt8)) (ao : Option Addr) (cap : Nat) (w : World) (h : rowOf w (.slice ao ns.length cap) (ns.map strV)) (hn : ∀ a ∈ ns, a.length ≤ 1000000000) (hl : ns.length ≤ 100) :
    Calls Tryz.prog 27 #[.slice ao ns.length cap] w fun e w' => e = .returned (strV (nmsT ns)) ∧ Below w.heap.size w w' := by
  obtain ⟨i0, hi, hz⟩ := Option.map_eq_some_iff.1 Tryz.infoStr
  simp only [Prod.mk.injEq] at hz
  obtain ⟨hz0, hz1, hz2⟩ := hz
  have HR := Lib.hid (fun W (hb : Below w.heap.size w W) => h.below hb)
  have HL := Lib.hid hn
  have HN := Lib.hid nameText_any
  have HJ := Lib.hid (fun v ws W h hw => joinS_any v ws ⟨#[32]⟩ w.heap.size W h hw (by decide))
  clear h hn
  by_cases h0 : ns.length = 0
  · have b0 : ((ns.length : Int) == 0) = true := beq_yes (by omega)
    have HE : Hid (nmsT ns = []) := by
      unfold Hid nmsT
      rw [if_pos (List.eq_nil_of_length_eq_zero h0)]
    clear h0
    go_enter Tryz.func27, Tryz.ntmps27
    go_wp2_with fail
    go_ret
    exact ⟨by rw [HE.out]; rfl, Below.refl _ _⟩
  · have b0 : ((ns.length : Int) == 0) = false := beq_no (by omega)
    have HE : Hid (nmsT ns = [32, 40] ++ (Lib.join (ns.map nameT) [32] ++ [41])) := by
      unfold Hid nmsT
      rw [if_neg (fun e => h0 (by rw [e]; rfl))]
    clear h0
    go_enter Tryz.func27, Tryz.ntmps27
    go_wp2_with fail
    go_loopg [3, 11] ns.length (fun q v xi wr => ∃ (i : Nat) (acc : List (List UInt8)), i ≤ ns.length ∧ q = ns.length - i ∧ xi = .int .i64 (i : Int) ∧ Hid (acc = (ns.take i).map nameT) ∧ acc.length ≤ 1000 ∧ Hid (wr.ownsRow w.heap.size 9 1 v acc.length (acc.map strV)) ∧ Hid (Below w.heap.size w wr))
    case atStart => exact ⟨0, [], by omega, by omega, rfl, rfl, by simp, ⟨rfl, .inl ⟨rfl, rfl⟩⟩, Below.refl _ _⟩
    case round =>
      obtain ⟨i, acc, hi2, rfl, rfl, HAc, hac, HO, HB⟩ := hrel
      by_cases hlt : i < ns.length
      · obtain ⟨b, off, rfl, hb, hc⟩ := (HR.out wr HB.out).at i (by simpa using hlt)
        have hc' : wr.cell? ⟨b, off + i, none⟩ = some (.string ⟨ns[i].toArray⟩) := by rw [hc]; simp [strV]
        have HNi := Lib.hid (HN.out ns[i] wr (HL.out _ (List.getElem_mem hlt)))
        unfold strV at HNi
        have HT : Hid (acc ++ [nameT ns[i]] = (ns.take (i + 1)).map nameT) := by
          unfold Hid
          rw [List.take_succ_eq_append_getElem hlt, HAc.out, List.map_append]
          rfl
        have HL1 : Hid (acc.length + 1 ≤ 1000) := by
          unfold Hid
          rw [HAc.out, List.length_map, List.length_take]
          omega
        obtain ⟨x, hx⟩ : ∃ x, x = ns[i] := ⟨_, rfl⟩
        obtain ⟨t, ht⟩ : ∃ t, t = nameT ns[i] := ⟨_, rfl⟩
        rw [← ht] at HT HNi
        rw [← hx] at hc' HNi
        clear hc hx ht
        go_wp2_with fail
        with_reducible refine HNi.out.mono ?_
        rintro e w2 ⟨rfl, hb2⟩
        have HB2 := Lib.hid (HB.out.trans (hb2.mono HB.out.size))
        have HO2 := Lib.hid (ownsRow_below HO.out hb2)
        have HZ2 : Hid (w.heap.size ≤ w2.heap.size) := HB2.out.size
        clear hb2 HO HB HNi hc'
        go_wp2_with (at_builtin; refine wpList_append_own _ rfl _ _ 24 rfl w.heap.size 9 i0 (.string ⟨#[]⟩) 1 16 Tryz.underlying24 hi hz0 hz1 hz2 rfl (by decide) _ _ _ rfl (HO2.out.alloc _) ⟨w2.heap.size, 0, none⟩ 1 1 [.string ⟨t.toArray⟩] rfl rfl ?c1 ?c2 ?c3 ?c4 ?c5 ?_)
        case c1 => exact cell_one_new w2 _ _
        case c2 => intro u hu; simp at hu; subst hu; rfl
        case c3 => unfold maxLen; omega
        case c4 => omega
        case c5 => have := HZ2.out; simp; omega
        intro v' w3 hown hgrow _
        have HO3 : Hid (w3.ownsRow w.heap.size 9 1 v' (acc ++ [t]).length ((acc ++ [t]).map strV)) := wsCast hown (by simp) (by simp [strV])
        have HB3 : Hid (Below w.heap.size w w3) := (HB2.out.alloc (by have := HZ2.out; omega) _).grown hgrow (by have := HZ2.out; simp; omega) (fun q hq => own_ge HO2.out q hq)
        clear hown hgrow
        go_wp2_with fail
        go_roundg (ns.length - (i + 1))
        case measure => omega
        case rel => exact ⟨i + 1, acc ++ [t], by omega, rfl, by go_num, HT.out, by have := HL1.out; simp; omega, HO3.out, HB3.out⟩
      · obtain rfl : i = ns.length := by omega
        have ho := HO.out
        rw [HAc.out, List.take_of_length_le (Nat.le_refl _)] at ho
        have hlen : (ns.map nameT).length = ns.length := by simp
        have hws : wsW (ns.map nameT) ≤ 1000000000000 := by
          have h1 := wsW_le 2000000002 (ns.map nameT) (fun a ha => by
            obtain ⟨c, hc, rfl⟩ := List.mem_map.1 ha
            have h1 := nameT_len c
            have h2 := HL.out c hc
            omega)
          rw [hlen] at h1
          have h2 : ns.length * (2000000002 + 1) ≤ 100 * (2000000002 + 1) := Nat.mul_le_mul_right _ hl
          omega
        have HJ1 := Lib.hid (HJ.out _ (ns.map nameT) wr ho (by omega))
        have hjl := join_len (⟨#[32]⟩ : ByteArray).data.toList (by decide) (ns.map nameT)
        obtain ⟨J, hJ⟩ : ∃ J, J = Lib.join (ns.map nameT) (⟨#[32]⟩ : ByteArray).data.toList := ⟨_, rfl⟩
        rw [← hJ] at HJ1 hjl
        have HJe : Hid (Lib.join (ns.map nameT) [32] = J) := hJ.symm
        have hJs : J.length ≤ 1000000000000 := by omega
        clear ho hJ hws hlen hjl
        go_wp2_with fail
        with_reducible refine HJ1.out.mono ?_
        rintro e w2 ⟨rfl, hb2⟩
        have HB2 := Lib.hid (HB.out.trans (hb2.mono HB.out.size))
        clear hb2
        go_wp2_with fail
        go_ret
        refine ⟨?_, HB2.out⟩
        rw [HE.out, HJe.out]
        unfold strV
        refine ret_str (bytes_eq ?_)
        simp
end Go.Proofs.YthcleaflhljdlaaGreatDoor
