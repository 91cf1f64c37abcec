/- Contracts of package params: values, parameters. -/
import Derived.Test.YtfgppamhbchhcaaGreatDoorGb16
import Derived.Test.YtfgppamhbchhcaaGreatDoorShelf2
import Derived.Test.YtfgppamhbchhcaaGreatDoorShelf3
import Derived.Test.YtfgppamhbchhcaaGreatDoorShelf5
import Derived.Deep.AppendSrc
namespace Go.Proofs.YtfgppamhbchhcaaGreatDoor
open Go Go.RowKit

theorem builder_below {T e : TypeId} {B b : Nat} {bs : List Value} {w w' : World} (h : Lib.IsBuilderF T e B b bs w) (hb : Below w.heap.size w w') : Lib.IsBuilderF T e B b bs w' := by
  have key : ∀ p, Lib.BuilderAtF T e B b p bs w → Lib.BuilderAtF T e B b p bs w' := by
    intro p h
    have hlt := h.lt
    obtain ⟨hB, v, hbk, hown, hne⟩ := h
    exact ⟨hB, v, (hb.block b hlt).trans hbk, hown.kept (row := none) ⟨hb.1, hb.2, hb.3, hb.size, fun k hk _ => hb.block k hk⟩ (by cases v.ownBlock <;> simp), hne⟩
  exact h.imp (key _) (key _)
theorem builder_new (w : World) : Lib.IsBuilderF 147 5 w.heap.size w.heap.size (Lib.byteCells []) (w.alloc (.cells #[.pointer none, .slice none 0 0] 147)) :=
  .inl ⟨Nat.le_refl _, .slice none 0 0, heap_alloc_new w _, World.ownsRowF_nil _ _ _ _, by simp [Value.ownBlock]⟩
theorem byteCells_app (a b : List UInt8) : Lib.byteCells (a ++ b) = Lib.byteCells a ++ Lib.byteCells b := by
  unfold Lib.byteCells
  simp
theorem byteCells_len (a : List UInt8) : (Lib.byteCells a).length = a.length := by
  unfold Lib.byteCells
  simp
theorem byteCells_one (c : UInt8) : Lib.byteCells [c] = [.int .u8 (c.toNat : Int)] := rfl
theorem strCells_bytes (a : List UInt8) : Lib.strCells ⟨a.toArray⟩ = Lib.byteCells a := by
  unfold Lib.strCells Lib.byteCells
  simp
def unqIs (l : List UInt8) (s : ByteArray) (v : List UInt8) (j : Nat) (b : Bool) : Prop :=
  match unqL false [] l with
  | some (v', r) => b = true ∧ v = v' ∧ s.data.toList.drop j = r
  | none => b = false ∧ v = [] ∧ j = s.size
theorem unqIs_none {l : List UInt8} {s : ByteArray} {j : Nat} (h : unqL false [] l = none) (hj : j = s.size) : unqIs l s [] j false := by unfold unqIs; rw [h]; exact ⟨rfl, rfl, hj⟩
theorem unqIs_some {l v r : List UInt8} {s : ByteArray} {j : Nat} (h : unqL false [] l = some (v, r)) (hr : s.data.toList.drop j = r) : unqIs l s v j true := by unfold unqIs; rw [h]; exact ⟨rfl, rfl, hr⟩

set_option maxRecDepth 100000 in
set_option maxHeartbeats 2000000 in
theorem unquoted_any (s : ByteArray) (k : Nat) (w : World) (hl : s.size ≤ 1000000000) (hk : k < s.size) :
    Calls Tryz.prog 116 #[.string s, .int .i64 (k : Int)] w fun e w' => ∃ (v : List UInt8) (j : Nat) (b : Bool), e = .returned (.tuple #[.string ⟨v.toArray⟩, .int .i64 (j : Int), .bool b]) ∧ j ≤ s.size ∧
      unqIs (s.data.toList.drop (k + 1)) s v j b ∧ Below w.heap.size w w' := by
  have HWB := Lib.hid (fun bs (c : UInt8) W h hlen hB => Tryz.Builder_WriteByte_k w.heap.size w.heap.size bs (c.toNat : Int) W h hlen hB)
  have HSt := Lib.hid (fun l W h => Tryz.Builder_String_any_k w.heap.size w.heap.size l W h)
  go_enter Tryz.func116, Tryz.ntmps116
  go_wp2_with fail
  go_loopg [1] (s.size - (k + 1)) (fun g v1 wr => ∃ (j : Nat) (acc : List UInt8), g = s.size - j ∧ k + 1 ≤ j ∧ j ≤ s.size ∧ v1 = .int .i64 (j : Int) ∧ acc.length ≤ j ∧ Hid (Lib.IsBuilderF 147 5 w.heap.size w.heap.size (Lib.byteCells acc) wr) ∧ Hid (Below w.heap.size w wr) ∧
    Hid (unqL false [] (s.data.toList.drop (k + 1)) = unqL false acc (s.data.toList.drop j)))
  case atStart => exact ⟨k + 1, [], by omega, by omega, by omega, by go_num, by simp, builder_new w, (Below.refl _ _).alloc (Nat.le_refl _) _, rfl⟩
  case round =>
    obtain ⟨j, acc, rfl, hkj, hj, rfl, hal, HBu, HB, HS⟩ := hrel
    by_cases hlt : j < s.size
    · have HD := Lib.hid (drop_cons s j hlt)
      rw [HD.out] at HS
      have hci := byte_lt s[j]
      by_cases h34 : s[j].toNat = 34
      · have b1 : (((s[j].toNat : Nat) : Int) == 34) = true := beq_yes (by omega)
        have HC : Hid (s[j] = 34) := toNat_eq h34
        have HSt1 := Lib.hid (HSt.out acc wr HBu.out HB.out.size)
        clear h34
        go_wp2_with fail
        with_reducible refine HSt1.out.mono ?_
        rintro e w1 ⟨rfl, _, hb1, _⟩
        have HB1 := Lib.hid (HB.out.trans hb1)
        clear hb1
        go_wp2_with fail
        refine bodyPost_ret (v := .tuple #[.string ⟨acc.toArray⟩, .int .i64 (((j : Nat) : Int) + 1), .bool true]) (by simp [results, Tryz.results116, go_sem]) rfl ?_
        refine ⟨acc, j + 1, true, by go_num, by omega, unqIs_some (r := s.data.toList.drop (j + 1)) ?_ rfl, HB1.out⟩
        rw [HS.out, HC.out]
        rfl
      · have b1 : (((s[j].toNat : Nat) : Int) == 34) = false := beq_no (by omega)
        have HN : Hid (s[j] ≠ 34) := fun e => h34 (by rw [e]; rfl)
        by_cases h92 : s[j].toNat = 92
        · have b2 : (((s[j].toNat : Nat) : Int) == 92) = true := beq_yes (by omega)
          have HC : Hid (s[j] = 92) := toNat_eq h92
          clear h92 h34
          by_cases hje : j + 1 = s.size
          · have b3 : (((j : Int) + 1) == (s.size : Int)) = true := beq_yes (by omega)
            have HE : Hid (s.data.toList.drop (j + 1) = []) := List.drop_eq_nil_of_le (by simp; omega)
            have HJE := Lib.hid hje
            clear hje
            go_wp2_with fail
            refine bodyPost_ret (v := .tuple #[.string ⟨#[]⟩, .int .i64 (((j : Nat) : Int) + 1), .bool false]) (by simp [results, Tryz.results116, go_sem]) rfl ?_
            refine ⟨[], j + 1, false, by go_num, by omega, unqIs_none ?_ HJE.out, HB.out⟩
            rw [HS.out, HC.out, HE.out]
            rfl
          · have b3 : (((j : Int) + 1) == (s.size : Int)) = false := beq_no (by omega)
            have hlt2 : j + 1 < s.size := by omega
            have HD2 := Lib.hid (drop_cons s (j + 1) hlt2)
            have HW1 := Lib.hid (HWB.out (Lib.byteCells acc) s[j + 1] wr HBu.out (by rw [byteCells_len]; omega) HB.out.size)
            have hj1 : ((j : Int) + 1).toNat = j + 1 := by omega
            go_wp2_with fail
            with_reducible refine HW1.out.mono ?_
            rintro e w1 ⟨rfl, hbu1, hb1, _⟩
            have HB1 := Lib.hid (HB.out.trans hb1)
            have HBu1 := Lib.hid (Or.inr hbu1 : Lib.IsBuilderF 147 5 w.heap.size w.heap.size _ w1)
            clear hb1 hbu1
            go_wp2_with fail
            go_roundg (s.size - (j + 2))
            case measure => omega
            case rel =>
              refine ⟨j + 2, acc ++ [s[j + 1]], rfl, by omega, by omega, by go_num, by simp; omega, ?_, HB1.out, ?_⟩
              · unfold Hid
                rw [byteCells_app, byteCells_one]
                exact HBu1.out
              · unfold Hid
                rw [HS.out, HC.out, HD2.out]
                rfl
        · have b2 : (((s[j].toNat : Nat) : Int) == 92) = false := beq_no (by omega)
          have HN2 : Hid (s[j] ≠ 92) := fun e => h92 (by rw [e]; rfl)
          have HW1 := Lib.hid (HWB.out (Lib.byteCells acc) s[j] wr HBu.out (by rw [byteCells_len]; omega) HB.out.size)
          clear h92 h34
          go_wp2_with fail
          with_reducible refine HW1.out.mono ?_
          rintro e w1 ⟨rfl, hbu1, hb1, _⟩
          have HB1 := Lib.hid (HB.out.trans hb1)
          have HBu1 := Lib.hid (Or.inr hbu1 : Lib.IsBuilderF 147 5 w.heap.size w.heap.size _ w1)
          clear hb1 hbu1
          go_wp2_with fail
          go_roundg (s.size - (j + 1))
          case measure => omega
          case rel =>
            refine ⟨j + 1, acc ++ [s[j]], rfl, by omega, by omega, by go_num, by simp; omega, ?_, HB1.out, ?_⟩
            · unfold Hid
              rw [byteCells_app, byteCells_one]
              exact HBu1.out
            · unfold Hid
              rw [HS.out]
              show (if s[j] = 34 then _ else if s[j] = 92 then _ else _) = _
              rw [if_neg HN.out, if_neg HN2.out]
    · have HE : Hid (s.data.toList.drop j = []) := List.drop_eq_nil_of_le (by simp; omega)
      go_wp2_with fail
      refine bodyPost_ret (v := .tuple #[.string ⟨#[]⟩, .int .i64 ((j : Nat)), .bool false]) (by simp [results, Tryz.results116, go_sem]) rfl ?_
      refine ⟨[], j, false, rfl, hj, unqIs_none ?_ (by omega), HB.out⟩
      rw [HS.out, HE.out]
      rfl

/-- What a quoted text tells. -/
def unqV (s : ByteArray) (l : List UInt8) : Value :=
  match unqL false [] l with
  | some (v, r) => .tuple #[.string ⟨v.toArray⟩, .int .i64 ((s.size - r.length : Nat) : Int), .bool true]
  | none => .tuple #[.string ⟨#[]⟩, .int .i64 ((s.size : Nat) : Int), .bool false]
theorem unquoted_v (s : ByteArray) (k : Nat) (w : World) (hl : s.size ≤ 1000000000) (hk : k < s.size) :
    Calls Tryz.prog 116 #[.string s, .int .i64 (k : Int)] w fun e w' => e = .returned (unqV s (s.data.toList.drop (k + 1))) ∧ Below w.heap.size w w' :=
  (unquoted_any s k w hl hk).mono fun e w' ⟨v, j, b, he, hj, hu, hb⟩ => by
    refine ⟨?_, hb⟩
    rw [he]
    unfold unqIs at hu
    unfold unqV
    split at hu
    · next v' r h =>
      obtain ⟨rfl, rfl, rfl⟩ := hu
      have e1 : s.size - (s.data.toList.drop j).length = j := by rw [List.length_drop, len_toList]; omega
      simp only [e1]
    · next h =>
      obtain ⟨rfl, rfl, rfl⟩ := hu
      rfl

theorem sees_int (B : Nat) (s : ByteArray) (k : Nat) (c : UInt8) (n : Int) (hn : (c.toNat : Int) = n) (w : World) (hr : Rd w B s k) :
    Calls Tryz.prog 92 #[.pointer (some ⟨B, 0, none⟩), .int .u8 n] w fun e w' => e = .returned (.bool (seesB c (s.data.toList.drop k))) ∧ Below w.heap.size w w' := by
  subst hn
  exact sees_any B s k c w hr
theorem takes_int (B : Nat) (s : ByteArray) (k : Nat) (c : UInt8) (n : Int) (hn : (c.toNat : Int) = n) (w : World) (hr : Rd w B s k) (hl : s.size ≤ 1000000000) (hk : k ≤ s.size) :
    Calls Tryz.prog 71 #[.pointer (some ⟨B, 0, none⟩), .int .u8 n] w fun e w' => e = .returned (.bool (takeL c (s.data.toList.drop k)).isSome) ∧
      ∃ k', Rd w' B s k' ∧ k' ≤ s.size ∧ (∀ r, takeL c (s.data.toList.drop k) = some r → s.data.toList.drop k' = r) ∧ Gr B w w' := by
  subst hn
  exact takes_any B s k c w hr hl hk
def valV : Option (List UInt8 × List UInt8) → Value
  | some (v, _) => .tuple #[.string ⟨v.toArray⟩, .bool true]
  | none => .tuple #[.string ⟨#[]⟩, .bool false]
set_option maxRecDepth 100000 in
set_option maxHeartbeats 2000000 in
theorem rdValue_any (B : Nat) (s : ByteArray) (k : Nat) (w : World) (hr : Rd w B s k) (hl : s.size ≤ 1000000000) (hk : k ≤ s.size) :
    Calls Tryz.prog 97 #[.pointer (some ⟨B, 0, none⟩)] w fun e w' => e = .returned (valV (valueL (s.data.toList.drop k))) ∧
      ∃ k', Rd w' B s k' ∧ k' ≤ s.size ∧ (∀ v r, valueL (s.data.toList.drop k) = some (v, r) → s.data.toList.drop k' = r) ∧ Gr B w w' := by
  have HS := Lib.hid (skip_any B s k w hr hl hk)
  have HSe := Lib.hid (fun j W h => sees_int B s j 34 34 rfl W h)
  have HTk := Lib.hid (fun j W h hj => rdToken_any B s j W h hl hj)
  have HU := Lib.hid (fun j W h => unquoted_v s j W hl h)
  clear hr
  go_enter Tryz.func97, Tryz.ntmps97
  go_wp2_with fail
  with_reducible refine HS.out.mono ?_
  rintro e w1 ⟨rfl, j, hR1, hj1, hj2, hD, hG1⟩
  have HR1 := Lib.hid hR1
  have HG1 := Lib.hid hG1
  have HSj := Lib.hid (HSe.out j w1 hR1)
  have HDj : Hid (sk (s.data.toList.drop k) = s.data.toList.drop j) := hD.symm
  clear hR1 hG1 hD HS HSe
  rcases Bool.eq_false_or_eq_true (seesB 34 (s.data.toList.drop j)) with hs | hs
  · rw [hs] at HSj
    have hlt : j < s.size := by
      rcases Nat.lt_or_ge j s.size with h | h
      · exact h
      · rw [List.drop_eq_nil_of_le (by simp; omega)] at hs
        cases hs
    have HV : Hid (valueL (s.data.toList.drop k) = unqL false [] (s.data.toList.drop (j + 1))) := by
      unfold Hid valueL
      rw [HDj.out, drop_cons s j hlt]
      rw [drop_cons s j hlt] at hs
      have e : s[j] = 34 := by simpa [seesB] using hs
      simp only
      rw [if_pos e]
    have HUj := Lib.hid (fun W => HU.out j W hlt)
    go_wp2_with fail
    with_reducible refine HSj.out.mono ?_
    rintro e w2 ⟨rfl, hb2⟩
    have HR2 := Lib.hid (HR1.out.below hb2)
    have HG2 := Lib.hid (HG1.out.below hb2)
    have C0 := BW.cell HR2.out.c0
    have C1 := BW.cell HR2.out.c1
    clear hb2 HR1 HG1
    have key : ∀ (v : List UInt8) (n : Nat) (b : Bool), unqV s (s.data.toList.drop (j + 1)) = .tuple #[.string ⟨v.toArray⟩, .int .i64 (n : Int), .bool b] → n ≤ s.size → True := fun _ _ _ _ _ => trivial
    obtain ⟨v, n, b, hv⟩ : ∃ (v : List UInt8) (n : Nat) (b : Bool), unqV s (s.data.toList.drop (j + 1)) = .tuple #[.string ⟨v.toArray⟩, .int .i64 (n : Int), .bool b] ∧ n ≤ s.size ∧
        Ending.returned (.tuple #[.string ⟨v.toArray⟩, .bool b]) = .returned (valV (unqL false [] (s.data.toList.drop (j + 1)))) ∧ (∀ v' r, unqL false [] (s.data.toList.drop (j + 1)) = some (v', r) → s.data.toList.drop n = r) := by
      unfold unqV
      split
      · next v r h =>
        refine ⟨v, s.size - r.length, true, rfl, by omega, by rw [h]; rfl, fun v' r' h' => ?_⟩
        rw [h] at h'
        cases h'
        have h2 : ∀ (l acc : List UInt8) (e : Bool) (p : List UInt8 × List UInt8), unqL e acc l = some p → p.2 = l.drop (l.length - p.2.length) := by
          intro l
          induction l with
          | nil => intro acc e p h; cases e <;> simp [unqL] at h
          | cons c l ih =>
            intro acc e p h
            have step : ∀ acc e, unqL e acc l = some p → p.2 = (c :: l).drop ((c :: l).length - p.2.length) := fun acc e h => by
              have hl := unqL_len _ _ _ _ h
              rw [List.length_cons, show l.length + 1 - p.2.length = (l.length - p.2.length) + 1 by omega, List.drop_succ_cons]
              exact ih _ _ _ h
            cases e
            · unfold unqL at h
              split at h
              · cases h
                show l = (c :: l).drop (l.length + 1 - l.length)
                rw [show l.length + 1 - l.length = 1 by omega]
                rfl
              · split at h
                · exact step _ _ h
                · exact step _ _ h
            · exact step _ _ h
        have h3 := h2 _ _ _ _ h
        have h4 := unqL_len _ _ _ _ h
        simp only [List.length_drop, len_toList] at h3 h4
        rw [h3, List.drop_drop]
        congr 1
        have h5 : r.length ≤ s.size - (j + 1) := by omega
        simp only [List.length_drop, len_toList]
        omega
      · next h =>
        exact ⟨[], s.size, false, rfl, Nat.le_refl _, by rw [h]; rfl, fun v' r' h' => by rw [h] at h'; cases h'⟩
    obtain ⟨hv, hn, hval, hdr⟩ := hv
    rw [hv] at HUj
    have HVal := Lib.hid hval
    have HDr := Lib.hid hdr
    clear hv hval hdr key
    go_wp2_with fail
    refine wp_region_below (by kernel_rfl) (by kernel_rfl) ?_
    repeat (go_big_quiet_step (first | (go_at_call 116; exact BW.calls (HUj.out _))))
    refine wpQuiet_nil ?_
    rintro W3 ⟨⟨_, hb3⟩, rfl⟩
    have HR3 := Lib.hid (HR2.out.below hb3)
    have HG3 := Lib.hid (HG2.out.below hb3)
    have c1 := HR3.out.c1
    have f1 := HR3.out.f1
    clear hb3 HR2 HG2 C0 C1
    go_wp2_with fail
    go_ret2
    refine ⟨by rw [HV.out]; exact HVal.out, n, HR3.out.set n, hn, ?_, HG3.out.set 1 _⟩
    rw [HV.out]
    exact HDr.out
  · rw [hs] at HSj
    have HTj := Lib.hid (fun W h => HTk.out j W h hj2)
    go_wp2_with fail
    with_reducible refine HSj.out.mono ?_
    rintro e w2 ⟨rfl, hb2⟩
    have HR2 := Lib.hid (HR1.out.below hb2)
    have HG2 := Lib.hid (HG1.out.below hb2)
    clear hb2 HR1 HG1
    go_wp2_with fail
    with_reducible refine (HTj.out _ HR2.out).mono ?_
    rintro e w3 ⟨rfl, j3, hR3, hj3, hD3, hG3⟩
    have HR3 := Lib.hid hR3
    have HG3 := Lib.hid (HG2.out.trans hG3)
    have HD3 := Lib.hid hD3
    have HV : Hid (valueL (s.data.toList.drop k) = if (tokenL (s.data.toList.drop j)).1 = [] then none else some (tokenL (s.data.toList.drop j))) := by
      have hsk : sk (s.data.toList.drop j) = s.data.toList.drop j := by
        cases h : s.data.toList.drop j with
        | nil => rfl
        | cons c r =>
          have h1 := sk_head (s.data.toList.drop k) c r false 0 (HDj.out.trans h)
          exact sk_stay r h1.1 h1.2
      unfold Hid valueL
      have ht : (tokenL (s.data.toList.drop j)).1 = tokL (s.data.toList.drop j) := by
        show tokL (sk _) = _
        rw [hsk]
      rw [ht, HDj.out]
      unfold seesB at hs
      split
      · next c r e =>
        rw [e] at hs
        rw [if_neg (by simpa using hs)]
        have h2 : tokenL (s.data.toList.drop k) = tokenL (s.data.toList.drop j) := by
          show (tokL (sk _), (sk _).drop _) = (tokL (sk _), (sk _).drop _)
          rw [HDj.out, hsk]
        rw [h2]
      · next e => rw [e]; rfl
    obtain ⟨T, R, hTR⟩ : ∃ T R, tokenL (s.data.toList.drop j) = (T, R) := ⟨_, _, rfl⟩
    rw [hTR] at HV HD3 ⊢
    have HD3' : Hid (s.data.toList.drop j3 = R) := HD3.out
    have HV' : Hid (valueL (s.data.toList.drop k) = if T = [] then none else some (T, R)) := HV.out
    clear hR3 hG3 hD3 HTj HV HD3 hTR hs
    unfold tokV
    go_wp2_with fail
    go_ret2
    refine ⟨?_, j3, HR3.out, hj3, fun v r h => ?_, HG3.out⟩
    · rw [HV'.out]
      cases T <;> rfl
    · rw [HV'.out] at h
      split at h
      · cases h
      · cases h
        exact HD3'.out
end Go.Proofs.YtfgppamhbchhcaaGreatDoor
