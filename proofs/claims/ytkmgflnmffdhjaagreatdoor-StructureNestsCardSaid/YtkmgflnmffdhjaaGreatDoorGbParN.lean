/- Contracts of package params: values, parameters. -/
import Derived.Test.YtkmgflnmffdhjaaGreatDoorGbParH
import Derived.Test.YtkmgflnmffdhjaaGreatDoorShelf2
import Derived.Test.YtkmgflnmffdhjaaGreatDoorShelf3
import Derived.Test.YtkmgflnmffdhjaaGreatDoorGbShelf5
import Derived.Deep.AppendSrc
import Derived.Test.YtkmgflnmffdhjaaGreatDoorGbChars7
import Derived.Test.YtkmgflnmffdhjaaGreatDoorGbAdM
import Derived.Test.YtkmgflnmffdhjaaGreatDoorGbParC
import Derived.Test.YtkmgflnmffdhjaaGreatDoorShelf
import Derived.Lib.IndexBytes
import Derived.Shelf.Strings.SplitCore
namespace Go.Proofs.YtkmgflnmffdhjaaGreatDoor
open Go Go.RowKit

theorem builder_below {T e : TypeId} {B b : Nat} {bs : List Value} {w w' : World} (h : Lib.IsBuilderF T e B b bs w) (hb : Below w.heap.size w w') : Lib.IsBuilderF T e B b bs w' := by
  have key : ∀ p, Lib.BuilderAtF T e B b p bs w → Lib.BuilderAtF T e B b p bs w' := by
    intro p h
    have hlt := h.lt
    obtain ⟨hB, v, hbk, hown, hne⟩ := h
    exact ⟨hB, v, (hb.block b hlt).trans hbk, hown.kept (row := none) ⟨hb.1, hb.2, hb.3, hb.size, fun k hk _ => hb.block k hk⟩ (by cases v.ownBlock <;> simp), hne⟩
  exact h.imp (key _) (key _)
theorem builder_new (w : World) : Lib.IsBuilderF 53 5 w.heap.size w.heap.size (Lib.byteCells []) (w.alloc (.cells #[.pointer none, .slice none 0 0] 53)) :=
  .inl ⟨Nat.le_refl _, .slice none 0 0, heap_alloc_new w _, World.ownsRowF_nil _ _ _ _, by simp [Value.ownBlock]⟩
theorem byteCells_app (a b : List UInt8) : Lib.byteCells (a ++ b) = Lib.byteCells a ++ Lib.byteCells b := by
  unfold Lib.byteCells
  simp
theorem byteCells_len (a : List UInt8) : (Lib.byteCells a).length = a.length := by
  unfold Lib.byteCells
  simp
theorem byteCells_one (c : UInt8) : Lib.byteCells [c] = [.int .u8 (c.toNat : Int)] := rfl
theorem strCells_bytes (a : List UInt8) : Lib.strCells ⟨a.toArray⟩ = Lib.byteCells a := by
  unfold Lib.strCells Lib.byteCells
  simp
def unqIs (l : List UInt8) (s : ByteArray) (v : List UInt8) (j : Nat) (b : Bool) : Prop :=
  match unqL false [] l with
  | some (v', r) => b = true ∧ v = v' ∧ s.data.toList.drop j = r
  | none => b = false ∧ v = [] ∧ j = s.size
theorem unqIs_none {l : List UInt8} {s : ByteArray} {j : Nat} (h : unqL false [] l = none) (hj : j = s.size) : unqIs l s [] j false := by unfold unqIs; rw [h]; exact ⟨rfl, rfl, hj⟩
theorem unqIs_some {l v r : List UInt8} {s : ByteArray} {j : Nat} (h : unqL false [] l = some (v, r)) (hr : s.data.toList.drop j = r) : unqIs l s v j true := by unfold unqIs; rw [h]; exact ⟨rfl, rfl, hr⟩

set_option maxRecDepth 100000 in
set_option maxHeartbeats 2000000 in
theorem unquoted_any (s : ByteArray) (k : Nat) (w : World) (hl : s.size ≤ 1000000000) (hk : k < s.size) :
    Calls Tryz.prog 134 #[.string s, .int .i64 (k : Int)] w fun e w' => ∃ (v : List UInt8) (j : Nat) (b : Bool), e = .returned (.tuple #[.string ⟨v.toArray⟩, .int .i64 (j : Int), .bool b]) ∧ j ≤ s.size ∧
      unqIs (s.data.toList.drop (k + 1)) s v j b ∧ Below w.heap.size w w' := by
  have HWB := Lib.hid (fun bs (c : UInt8) W h hlen hB => Tryz.Builder_WriteByte_k w.heap.size w.heap.size bs (c.toNat : Int) W h hlen hB)
  have HSt := Lib.hid (fun l W h => Tryz.Builder_String_any_k w.heap.size w.heap.size l W h)
  go_enter Tryz.func134, Tryz.ntmps134
  go_wp2_with fail
  go_loopg [1] (s.size - (k + 1)) (fun g v1 wr => ∃ (j : Nat) (acc : List UInt8), g = s.size - j ∧ k + 1 ≤ j ∧ j ≤ s.size ∧ v1 = .int .i64 (j : Int) ∧ acc.length ≤ j ∧ Hid (Lib.IsBuilderF 53 5 w.heap.size w.heap.size (Lib.byteCells acc) wr) ∧ Hid (Below w.heap.size w wr) ∧
    Hid (unqL false [] (s.data.toList.drop (k + 1)) = unqL false acc (s.data.toList.drop j)))
  case atStart => exact ⟨k + 1, [], by omega, by omega, by omega, by go_num, by simp, builder_new w, (Below.refl _ _).alloc (Nat.le_refl _) _, rfl⟩
  case round =>
    obtain ⟨j, acc, rfl, hkj, hj, rfl, hal, HBu, HB, HS⟩ := hrel
    by_cases hlt : j < s.size
    · have HD := Lib.hid (drop_cons s j hlt)
      rw [HD.out] at HS
      have hci := byte_lt s[j]
      by_cases h34 : s[j].toNat = 34
      · have b1 : (((s[j].toNat : Nat) : Int) == 34) = true := beq_yes (by omega)
        have HC : Hid (s[j] = 34) := toNat_eq h34
        have HSt1 := Lib.hid (HSt.out acc wr HBu.out HB.out.size)
        clear h34
        go_wp2_with fail
        with_reducible refine HSt1.out.mono ?_
        rintro e w1 ⟨rfl, _, hb1, _⟩
        have HB1 := Lib.hid (HB.out.trans hb1)
        clear hb1
        go_wp2_with fail
        refine bodyPost_ret (v := .tuple #[.string ⟨acc.toArray⟩, .int .i64 (((j : Nat) : Int) + 1), .bool true]) (by simp [results, Tryz.results134, go_sem]) rfl ?_
        refine ⟨acc, j + 1, true, by go_num, by omega, unqIs_some (r := s.data.toList.drop (j + 1)) ?_ rfl, HB1.out⟩
        rw [HS.out, HC.out]
        rfl
      · have b1 : (((s[j].toNat : Nat) : Int) == 34) = false := beq_no (by omega)
        have HN : Hid (s[j] ≠ 34) := fun e => h34 (by rw [e]; rfl)
        by_cases h92 : s[j].toNat = 92
        · have b2 : (((s[j].toNat : Nat) : Int) == 92) = true := beq_yes (by omega)
          have HC : Hid (s[j] = 92) := toNat_eq h92
          clear h92 h34
          by_cases hje : j + 1 = s.size
          · have b3 : (((j : Int) + 1) == (s.size : Int)) = true := beq_yes (by omega)
            have HE : Hid (s.data.toList.drop (j + 1) = []) := List.drop_eq_nil_of_le (by simp; omega)
            have HJE := Lib.hid hje
            clear hje
            go_wp2_with fail
            refine bodyPost_ret (v := .tuple #[.string ⟨#[]⟩, .int .i64 (((j : Nat) : Int) + 1), .bool false]) (by simp [results, Tryz.results134, go_sem]) rfl ?_
            refine ⟨[], j + 1, false, by go_num, by omega, unqIs_none ?_ HJE.out, HB.out⟩
            rw [HS.out, HC.out, HE.out]
            rfl
          · have b3 : (((j : Int) + 1) == (s.size : Int)) = false := beq_no (by omega)
            have hlt2 : j + 1 < s.size := by omega
            have HD2 := Lib.hid (drop_cons s (j + 1) hlt2)
            have HW1 := Lib.hid (HWB.out (Lib.byteCells acc) s[j + 1] wr HBu.out (by rw [byteCells_len]; omega) HB.out.size)
            have hj1 : ((j : Int) + 1).toNat = j + 1 := by omega
            go_wp2_with fail
            with_reducible refine HW1.out.mono ?_
            rintro e w1 ⟨rfl, hbu1, hb1, _⟩
            have HB1 := Lib.hid (HB.out.trans hb1)
            have HBu1 := Lib.hid (Or.inr hbu1 : Lib.IsBuilderF 53 5 w.heap.size w.heap.size _ w1)
            clear hb1 hbu1
            go_wp2_with fail
            go_roundg (s.size - (j + 2))
            case measure => omega
            case rel =>
              refine ⟨j + 2, acc ++ [s[j + 1]], rfl, by omega, by omega, by go_num, by simp; omega, ?_, HB1.out, ?_⟩
              · unfold Hid
                rw [byteCells_app, byteCells_one]
                exact HBu1.out
              · unfold Hid
                rw [HS.out, HC.out, HD2.out]
                rfl
        · have b2 : (((s[j].toNat : Nat) : Int) == 92) = false := beq_no (by omega)
          have HN2 : Hid (s[j] ≠ 92) := fun e => h92 (by rw [e]; rfl)
          have HW1 := Lib.hid (HWB.out (Lib.byteCells acc) s[j] wr HBu.out (by rw [byteCells_len]; omega) HB.out.size)
          clear h92 h34
          go_wp2_with fail
          with_reducible refine HW1.out.mono ?_
          rintro e w1 ⟨rfl, hbu1, hb1, _⟩
          have HB1 := Lib.hid (HB.out.trans hb1)
          have HBu1 := Lib.hid (Or.inr hbu1 : Lib.IsBuilderF 53 5 w.heap.size w.heap.size _ w1)
          clear hb1 hbu1
          go_wp2_with fail
          go_roundg (s.size - (j + 1))
          case measure => omega
          case rel =>
            refine ⟨j + 1, acc ++ [s[j]], rfl, by omega, by omega, by go_num, by simp; omega, ?_, HB1.out, ?_⟩
            · unfold Hid
              rw [byteCells_app, byteCells_one]
              exact HBu1.out
            · unfold Hid
              rw [HS.out]
              show (if s[j] = 34 then _ else if s[j] = 92 then _ else _) = _
              rw [if_neg HN.out, if_neg HN2.out]
    · have HE : Hid (s.data.toList.drop j = []) := List.drop_eq_nil_of_le (by simp; omega)
      go_wp2_with fail
      refine bodyPost_ret (v := .tuple #[.string ⟨#[]⟩, .int .i64 ((j : Nat)), .bool false]) (by simp [results, Tryz.results134, go_sem]) rfl ?_
      refine ⟨[], j, false, rfl, hj, unqIs_none ?_ (by omega), HB.out⟩
      rw [HS.out, HE.out]
      rfl

/-- What a quoted text tells. -/
def unqV (s : ByteArray) (l : List UInt8) : Value :=
  match unqL false [] l with
  | some (v, r) => .tuple #[.string ⟨v.toArray⟩, .int .i64 ((s.size - r.length : Nat) : Int), .bool true]
  | none => .tuple #[.string ⟨#[]⟩, .int .i64 ((s.size : Nat) : Int), .bool false]
theorem unquoted_v (s : ByteArray) (k : Nat) (w : World) (hl : s.size ≤ 1000000000) (hk : k < s.size) :
    Calls Tryz.prog 134 #[.string s, .int .i64 (k : Int)] w fun e w' => e = .returned (unqV s (s.data.toList.drop (k + 1))) ∧ Below w.heap.size w w' :=
  (unquoted_any s k w hl hk).mono fun e w' ⟨v, j, b, he, hj, hu, hb⟩ => by
    refine ⟨?_, hb⟩
    rw [he]
    unfold unqIs at hu
    unfold unqV
    split at hu
    · next v' r h =>
      obtain ⟨rfl, rfl, rfl⟩ := hu
      have e1 : s.size - (s.data.toList.drop j).length = j := by rw [List.length_drop, len_toList]; omega
      simp only [e1]
    · next h =>
      obtain ⟨rfl, rfl, rfl⟩ := hu
      rfl

theorem sees_int (B : Nat) (s : ByteArray) (k : Nat) (c : UInt8) (n : Int) (hn : (c.toNat : Int) = n) (w : World) (hr : Rd w B s k) :
    Calls Tryz.prog 99 #[.pointer (some ⟨B, 0, none⟩), .int .u8 n] w fun e w' => e = .returned (.bool (seesB c (s.data.toList.drop k))) ∧ Below w.heap.size w w' := by
  subst hn
  exact sees_any B s k c w hr
theorem takes_int (B : Nat) (s : ByteArray) (k : Nat) (c : UInt8) (n : Int) (hn : (c.toNat : Int) = n) (w : World) (hr : Rd w B s k) (hl : s.size ≤ 1000000000) (hk : k ≤ s.size) :
    Calls Tryz.prog 65 #[.pointer (some ⟨B, 0, none⟩), .int .u8 n] w fun e w' => e = .returned (.bool (takeL c (s.data.toList.drop k)).isSome) ∧
      ∃ k', Rd w' B s k' ∧ k' ≤ s.size ∧ (∀ r, takeL c (s.data.toList.drop k) = some r → s.data.toList.drop k' = r) ∧ Gr B w w' := by
  subst hn
  exact takes_any B s k c w hr hl hk
def valV : Option (List UInt8 × List UInt8) → Value
  | some (v, _) => .tuple #[.string ⟨v.toArray⟩, .bool true]
  | none => .tuple #[.string ⟨#[]⟩, .bool false]
set_option maxRecDepth 100000 in
set_option maxHeartbeats 2000000 in
theorem rdValue_any (B : Nat) (s : ByteArray) (k : Nat) (w : World) (hr : Rd w B s k) (hl : s.size ≤ 1000000000) (hk : k ≤ s.size) :
    Calls Tryz.prog 105 #[.pointer (some ⟨B, 0, none⟩)] w fun e w' => e = .returned (valV (valueL (s.data.toList.drop k))) ∧
      ∃ k', Rd w' B s k' ∧ k' ≤ s.size ∧ (∀ v r, valueL (s.data.toList.drop k) = some (v, r) → s.data.toList.drop k' = r) ∧ Gr B w w' := by
  have HS := Lib.hid (skip_any B s k w hr hl hk)
  have HSe := Lib.hid (fun j W h => sees_int B s j 34 34 rfl W h)
  have HTk := Lib.hid (fun j W h hj => rdToken_any B s j W h hl hj)
  have HU := Lib.hid (fun j W h => unquoted_v s j W hl h)
  clear hr
  go_enter Tryz.func105, Tryz.ntmps105
  go_wp2_with fail
  with_reducible refine HS.out.mono ?_
  rintro e w1 ⟨rfl, j, hR1, hj1, hj2, hD, hG1⟩
  have HR1 := Lib.hid hR1
  have HG1 := Lib.hid hG1
  have HSj := Lib.hid (HSe.out j w1 hR1)
  have HDj : Hid (sk (s.data.toList.drop k) = s.data.toList.drop j) := hD.symm
  clear hR1 hG1 hD HS HSe
  rcases Bool.eq_false_or_eq_true (seesB 34 (s.data.toList.drop j)) with hs | hs
  · rw [hs] at HSj
    have hlt : j < s.size := by
      rcases Nat.lt_or_ge j s.size with h | h
      · exact h
      · rw [List.drop_eq_nil_of_le (by simp; omega)] at hs
        cases hs
    have HV : Hid (valueL (s.data.toList.drop k) = unqL false [] (s.data.toList.drop (j + 1))) := by
      unfold Hid valueL
      rw [HDj.out, drop_cons s j hlt]
      rw [drop_cons s j hlt] at hs
      have e : s[j] = 34 := by simpa [seesB] using hs
      simp only
      rw [if_pos e]
    have HUj := Lib.hid (fun W => HU.out j W hlt)
    go_wp2_with fail
    with_reducible refine HSj.out.mono ?_
    rintro e w2 ⟨rfl, hb2⟩
    have HR2 := Lib.hid (HR1.out.below hb2)
    have HG2 := Lib.hid (HG1.out.below hb2)
    have C0 := BW.cell HR2.out.c0
    have C1 := BW.cell HR2.out.c1
    clear hb2 HR1 HG1
    have key : ∀ (v : List UInt8) (n : Nat) (b : Bool), unqV s (s.data.toList.drop (j + 1)) = .tuple #[.string ⟨v.toArray⟩, .int .i64 (n : Int), .bool b] → n ≤ s.size → True := fun _ _ _ _ _ => trivial
    obtain ⟨v, n, b, hv⟩ : ∃ (v : List UInt8) (n : Nat) (b : Bool), unqV s (s.data.toList.drop (j + 1)) = .tuple #[.string ⟨v.toArray⟩, .int .i64 (n : Int), .bool b] ∧ n ≤ s.size ∧
        Ending.returned (.tuple #[.string ⟨v.toArray⟩, .bool b]) = .returned (valV (unqL false [] (s.data.toList.drop (j + 1)))) ∧ (∀ v' r, unqL false [] (s.data.toList.drop (j + 1)) = some (v', r) → s.data.toList.drop n = r) := by
      unfold unqV
      split
      · next v r h =>
        refine ⟨v, s.size - r.length, true, rfl, by omega, by rw [h]; rfl, fun v' r' h' => ?_⟩
        rw [h] at h'
        cases h'
        have h2 : ∀ (l acc : List UInt8) (e : Bool) (p : List UInt8 × List UInt8), unqL e acc l = some p → p.2 = l.drop (l.length - p.2.length) := by
          intro l
          induction l with
          | nil => intro acc e p h; cases e <;> simp [unqL] at h
          | cons c l ih =>
            intro acc e p h
            have step : ∀ acc e, unqL e acc l = some p → p.2 = (c :: l).drop ((c :: l).length - p.2.length) := fun acc e h => by
              have hl := unqL_len _ _ _ _ h
              rw [List.length_cons, show l.length + 1 - p.2.length = (l.length - p.2.length) + 1 by omega, List.drop_succ_cons]
              exact ih _ _ _ h
            cases e
            · unfold unqL at h
              split at h
              · cases h
                show l = (c :: l).drop (l.length + 1 - l.length)
                rw [show l.length + 1 - l.length = 1 by omega]
                rfl
              · split at h
                · exact step _ _ h
                · exact step _ _ h
            · exact step _ _ h
        have h3 := h2 _ _ _ _ h
        have h4 := unqL_len _ _ _ _ h
        simp only [List.length_drop, len_toList] at h3 h4
        rw [h3, List.drop_drop]
        congr 1
        have h5 : r.length ≤ s.size - (j + 1) := by omega
        simp only [List.length_drop, len_toList]
        omega
      · next h =>
        exact ⟨[], s.size, false, rfl, Nat.le_refl _, by rw [h]; rfl, fun v' r' h' => by rw [h] at h'; cases h'⟩
    obtain ⟨hv, hn, hval, hdr⟩ := hv
    rw [hv] at HUj
    have HVal := Lib.hid hval
    have HDr := Lib.hid hdr
    clear hv hval hdr key
    go_wp2_with fail
    refine wp_region_below (by kernel_rfl) (by kernel_rfl) ?_
    repeat (go_big_quiet_step (first | (go_at_call 134; exact BW.calls (HUj.out _))))
    refine wpQuiet_nil ?_
    rintro W3 ⟨⟨_, hb3⟩, rfl⟩
    have HR3 := Lib.hid (HR2.out.below hb3)
    have HG3 := Lib.hid (HG2.out.below hb3)
    have c1 := HR3.out.c1
    have f1 := HR3.out.f1
    clear hb3 HR2 HG2 C0 C1
    go_wp2_with fail
    go_ret2
    refine ⟨by rw [HV.out]; exact HVal.out, n, HR3.out.set n, hn, ?_, HG3.out.set 1 _⟩
    rw [HV.out]
    exact HDr.out
  · rw [hs] at HSj
    have HTj := Lib.hid (fun W h => HTk.out j W h hj2)
    go_wp2_with fail
    with_reducible refine HSj.out.mono ?_
    rintro e w2 ⟨rfl, hb2⟩
    have HR2 := Lib.hid (HR1.out.below hb2)
    have HG2 := Lib.hid (HG1.out.below hb2)
    clear hb2 HR1 HG1
    go_wp2_with fail
    with_reducible refine (HTj.out _ HR2.out).mono ?_
    rintro e w3 ⟨rfl, j3, hR3, hj3, hD3, hG3⟩
    have HR3 := Lib.hid hR3
    have HG3 := Lib.hid (HG2.out.trans hG3)
    have HD3 := Lib.hid hD3
    have HV : Hid (valueL (s.data.toList.drop k) = if (tokenL (s.data.toList.drop j)).1 = [] then none else some (tokenL (s.data.toList.drop j))) := by
      have hsk : sk (s.data.toList.drop j) = s.data.toList.drop j := by
        cases h : s.data.toList.drop j with
        | nil => rfl
        | cons c r =>
          have h1 := sk_head (s.data.toList.drop k) c r false 0 (HDj.out.trans h)
          exact sk_stay r h1.1 h1.2
      unfold Hid valueL
      have ht : (tokenL (s.data.toList.drop j)).1 = tokL (s.data.toList.drop j) := by
        show tokL (sk _) = _
        rw [hsk]
      rw [ht, HDj.out]
      unfold seesB at hs
      split
      · next c r e =>
        rw [e] at hs
        rw [if_neg (by simpa using hs)]
        have h2 : tokenL (s.data.toList.drop k) = tokenL (s.data.toList.drop j) := by
          show (tokL (sk _), (sk _).drop _) = (tokL (sk _), (sk _).drop _)
          rw [HDj.out, hsk]
        rw [h2]
      · next e => rw [e]; rfl
    obtain ⟨T, R, hTR⟩ : ∃ T R, tokenL (s.data.toList.drop j) = (T, R) := ⟨_, _, rfl⟩
    rw [hTR] at HV HD3 ⊢
    have HD3' : Hid (s.data.toList.drop j3 = R) := HD3.out
    have HV' : Hid (valueL (s.data.toList.drop k) = if T = [] then none else some (T, R)) := HV.out
    clear hR3 hG3 hD3 HTj HV HD3 hTR hs
    unfold tokV
    go_wp2_with fail
    go_ret2
    refine ⟨?_, j3, HR3.out, hj3, fun v r h => ?_, HG3.out⟩
    · rw [HV'.out]
      cases T <;> rfl
    · rw [HV'.out] at h
      split at h
      · cases h
      · cases h
        exact HD3'.out
end Go.Proofs.YtkmgflnmffdhjaaGreatDoor

/- Contracts of package params: opened. -/
namespace Go.Proofs.YtkmgflnmffdhjaaGreatDoor
open Go Go.RowKit

/-- What the variables hold. -/
def errAt (w : World) : Prop := ∃ te pe, w.cell? ⟨4, 0, none⟩ = some (.iface te pe)
def env (w : World) : Prop := tab w ∧ errAt w
theorem errAt.lt {w : World} (h : errAt w) : 4 < w.heap.size := by
  obtain ⟨te, pe, h⟩ := h
  exact World.block_lt_of_cell? _ _ h
theorem env.below {w w' : World} (h : env w) (hb : Below w.heap.size w w') : env w' := by
  refine ⟨h.1.below hb, ?_⟩
  have hl := h.2.lt
  obtain ⟨te, pe, h2⟩ := h.2
  exact ⟨te, pe, (hb.cell (p := ⟨4, 0, none⟩) hl).trans h2⟩

def pErr (e : Ending) : Prop := ∃ N, e = .returned (.tuple #[.int .u64 0, .iface 284 (.pointer (some ⟨N, 0, none⟩))])
set_option maxRecDepth 100000 in
theorem parseUint_any (s : ByteArray) (w : World) (hs : s.size = 2) (he : errAt w) :
    Calls Tryz.prog 156 #[.string s, .int .i64 16, .int .i64 8] w fun e w' => (match hexs 0 s.data.toList with | some n => e = .returned (.tuple #[.int .u64 (n : Int), .nilIface]) | none => pErr e) ∧ Below w.heap.size w w' := by
  have HP := Lib.hid (fun W => parse16_any s W hs)
  have hl := he.lt
  have HT := Lib.hid (fun fn ev W hv hev => Tryz.strconv_toError_syntax fn s 16 8 ev W (by omega) hv hev)
  have HE := Lib.hid he
  clear he hs
  cases hx : hexs 0 s.data.toList with
  | some n =>
    rw [hx] at HP
    unfold uintV at HP
    clear hx
    go_enter Tryz.func156, Tryz.ntmps156
    go_wp2_with fail
    with_reducible refine (HP.out _).mono ?_
    rintro e w1 ⟨rfl, hb1⟩
    go_wp2_with fail
    go_ret2
    exact ⟨rfl, hb1⟩
  | none =>
    rw [hx] at HP
    unfold uintV errS at HP
    clear hx
    go_enter Tryz.func156, Tryz.ntmps156
    go_wp2_with fail
    with_reducible refine (HP.out _).mono ?_
    rintro e w1 ⟨rfl, hb1⟩
    have HB1 := Lib.hid hb1
    obtain ⟨te, pe, hc⟩ := HE.out
    have HC := Lib.hid ((hb1.cell (p := ⟨4, 0, none⟩) hl).trans hc)
    clear hb1 hc
    go_wp2_with fail
    with_reducible refine (HT.out _ _ w1 HC.out (.inr ⟨te, pe, rfl⟩)).mono ?_
    rintro e w2 ⟨N, rfl, _, _, hb2⟩
    have HB2 := Lib.hid (HB1.out.trans (hb2.mono HB1.out.size))
    clear hb2
    go_wp2_with fail
    go_ret2
    exact ⟨⟨N, rfl⟩, HB2.out⟩

theorem codeL_short {l : List UInt8} (h : l.length < 3) : codeL l = none := by
  match l, h with
  | [], _ => rfl
  | [_], _ => rfl
  | [_, _], _ => rfl
theorem codeL_no {c : UInt8} {l : List UInt8} (h : c ≠ 37) : codeL (c :: l) = none := by
  match l with
  | [] => rfl
  | [_] => rfl
  | a :: b :: r => show (if c = 37 then _ else none) = none; rw [if_neg h]
theorem codeL_yes (a b : UInt8) (r : List UInt8) : codeL (37 :: a :: b :: r) = (hexs 0 [a, b]).map UInt8.ofNat := by
  show (if (37 : UInt8) = 37 then _ else none) = _
  rw [if_pos rfl]
  unfold hexs
  cases hexV a with
  | none => rfl
  | some x =>
    show _ = Option.map _ (hexs (16 * 0 + x) [b])
    unfold hexs
    cases hexV b with
    | none => rfl
    | some y =>
      show _ = Option.map _ (hexs (16 * (16 * 0 + x) + y) [])
      unfold hexs
      rw [Nat.mul_zero, Nat.zero_add]
      rfl
theorem hexs_lt (a b : UInt8) (n : Nat) (h : hexs 0 [a, b] = some n) : n < 256 := by
  unfold hexs at h
  cases ha : hexV a with
  | none => rw [ha] at h; cases h
  | some x =>
    rw [ha] at h
    have hx := hexV_lt ha
    simp only at h
    unfold hexs at h
    cases hb : hexV b with
    | none => rw [hb] at h; cases h
    | some y =>
      rw [hb] at h
      have hy := hexV_lt hb
      simp only at h
      unfold hexs at h
      cases h
      omega
def codeIs (o : Option UInt8) (x : Int) (b : Bool) : Prop := match o with
  | some c => x = (c.toNat : Int) ∧ b = true
  | none => b = false
set_option maxRecDepth 100000 in
set_option maxHeartbeats 1000000 in
theorem coded_any (s : ByteArray) (w : World) (hs : s.size ≤ 1000000000) (he : errAt w) :
    Calls Tryz.prog 131 #[.string s] w fun e w' => ∃ x b, e = .returned (.tuple #[.int .u8 x, .bool b]) ∧ codeIs (codeL s.data.toList) x b ∧ Below w.heap.size w w' := by
  by_cases h3 : s.size < 3
  · have h3i : (s.size : Int) < 3 := by omega
    have HN : Hid (codeL s.data.toList = none) := codeL_short (by rw [len_toList]; exact h3)
    go_enter Tryz.func131, Tryz.ntmps131
    go_wp2_with fail
    go_ret2
    exact ⟨0, false, rfl, by rw [HN.out]; rfl, Below.refl _ _⟩
  · have h3i : ¬ (s.size : Int) < 3 := by omega
    have h0 : 0 < s.size := by omega
    have HD := Lib.hid (drop_cons s 0 h0)
    by_cases h37 : s[0].toNat = 37
    · have b1 : (((s[0].toNat : Nat) : Int) != 37) = false := bne_no (by omega)
      have HC : Hid (s[0] = 37) := toNat_eq h37
      have h1 : 1 < s.size := by omega
      have h2 : 2 < s.size := by omega
      have HD1 := Lib.hid (drop_cons s 1 h1)
      have HD2 := Lib.hid (drop_cons s 2 h2)
      obtain ⟨t, ht⟩ : ∃ t, t = s.extract 1 3 := ⟨_, rfl⟩
      have ht2 : t.data.toList = [s[1], s[2]] := by
        rw [ht, extract_toList, HD1.out, HD2.out]
        rfl
      have hts : t.size = 2 := by
        have := congrArg List.length ht2
        rw [len_toList] at this
        exact this
      have HP := Lib.hid (fun W h => parseUint_any t W hts h)
      have HE : Hid (codeL s.data.toList = (hexs 0 t.data.toList).map UInt8.ofNat) := by
        unfold Hid
        have e : s.data.toList = (37 : UInt8) :: s[1] :: s[2] :: s.data.toList.drop 3 := by
          have := HD.out
          rw [List.drop_zero] at this
          rw [this, HD1.out, HD2.out, HC.out]
          rfl
        rw [ht2, ← codeL_yes s[1] s[2] (s.data.toList.drop 3), ← e]
      have HLt : Hid (∀ n, hexs 0 t.data.toList = some n → n < 256) := fun n h => hexs_lt s[1] s[2] n (by rw [← ht2]; exact h)
      have HEr := Lib.hid he
      have HT : Hid (s.extract 1 3 = t) := ht.symm
      clear h37 ht ht2 hts he
      cases hx : hexs 0 t.data.toList with
      | some n =>
        rw [hx] at HP HE
        have hn : n < 256 := HLt.out n hx
        have HX : Hid (((UInt8.ofNat n).toNat : Int) = (n : Int)) := by unfold Hid; have := byteN_toNat n hn; unfold byteN at this; rw [this]
        clear hx HLt
        go_enter Tryz.func131, Tryz.ntmps131
        go_wp2_with fail
        rw [HT.out]
        with_reducible refine (HP.out _ HEr.out).mono ?_
        rintro e w1 ⟨rfl, hb1⟩
        have HB1 := Lib.hid hb1
        clear hb1
        go_wp2_with fail
        refine wp_region_below (by kernel_rfl) (by kernel_rfl) ?_
        repeat (go_big_quiet_step (fail))
        refine wpQuiet_nil ?_
        rintro W2 ⟨⟨_, hb2⟩, rfl⟩
        go_wp2_with fail
        go_ret2
        exact ⟨(n : Int), true, rfl, by rw [HE.out]; exact ⟨HX.out.symm, rfl⟩, HB1.out.trans (hb2.mono HB1.out.size)⟩
      | none =>
        rw [hx] at HP HE
        clear hx HLt
        go_enter Tryz.func131, Tryz.ntmps131
        go_wp2_with fail
        rw [HT.out]
        with_reducible refine (HP.out _ HEr.out).mono ?_
        rintro e w1 ⟨⟨N, rfl⟩, hb1⟩
        have HB1 := Lib.hid hb1
        clear hb1
        go_wp2_with fail
        refine wp_region_below (by kernel_rfl) (by kernel_rfl) ?_
        repeat (go_big_quiet_step (fail))
        refine wpQuiet_nil ?_
        rintro W2 ⟨⟨_, hb2⟩, rfl⟩
        go_wp2_with fail
        go_ret2
        exact ⟨0, false, rfl, by rw [HE.out]; rfl, HB1.out.trans (hb2.mono HB1.out.size)⟩
    · have b1 : (((s[0].toNat : Nat) : Int) != 37) = true := bne_yes (by omega)
      have HN : Hid (codeL s.data.toList = none) := by
        unfold Hid
        have := HD.out
        rw [List.drop_zero] at this
        rw [this]
        exact codeL_no (fun e => h37 (by rw [e]; rfl))
      go_enter Tryz.func131, Tryz.ntmps131
      go_wp2_with fail
      go_ret2
      exact ⟨0, .inl ⟨rfl, by rw [HN.out]; rfl, Below.refl _ _⟩⟩

theorem openL_nil (n : Nat) : openL n [] = [] := by cases n <;> rfl
theorem openL_code {n : Nat} {c : UInt8} {l : List UInt8} {x : UInt8} (h : codeL (c :: l) = some x) : openL (n + 1) (c :: l) = x :: openL n (l.drop 2) := by
  show (match codeL (c :: l) with | some x => x :: openL n (l.drop 2) | none => c :: openL n l) = _
  rw [h]
theorem openL_byte {n : Nat} {c : UInt8} {l : List UInt8} (h : codeL (c :: l) = none) : openL (n + 1) (c :: l) = c :: openL n l := by
  show (match codeL (c :: l) with | some x => x :: openL n (l.drop 2) | none => c :: openL n l) = _
  rw [h]
theorem codeL_len {l : List UInt8} {x : UInt8} (h : codeL l = some x) : 3 ≤ l.length := by
  match l, h with
  | _ :: _ :: _ :: r, _ => simp

set_option maxRecDepth 100000 in
set_option maxHeartbeats 2000000 in
theorem opened_any (s : ByteArray) (w : World) (hl : s.size ≤ 1000000000) (he : errAt w) :
    Calls Tryz.prog 102 #[.string s] w fun e w' => e = .returned (.string ⟨(opn s.data.toList).toArray⟩) ∧ Below w.heap.size w w' := by
  have HWB := Lib.hid (fun bs (c : UInt8) W h hlen hB => Tryz.Builder_WriteByte_k w.heap.size w.heap.size bs (c.toNat : Int) W h hlen hB)
  have HSt := Lib.hid (fun l W h hB => Tryz.Builder_String_any_k w.heap.size w.heap.size l W h hB)
  have HCo := Lib.hid (fun t W ht h => coded_any t W ht h)
  have hlt1 := he.lt
  have HE := Lib.hid he
  have HEr : Hid (∀ W, Below w.heap.size w W → errAt W) := fun W hb => by
    obtain ⟨te, pe, h⟩ := HE.out
    exact ⟨te, pe, (hb.cell (p := ⟨4, 0, none⟩) hlt1).trans h⟩
  clear he hlt1
  go_enter Tryz.func102, Tryz.ntmps102
  go_wp2_with fail
  go_loopg [4] s.size (fun g v4 wr => ∃ (j f : Nat) (acc : List UInt8), g = s.size - j ∧ j ≤ s.size ∧ v4 = .int .i64 (j : Int) ∧ acc.length ≤ j ∧ s.size - j ≤ f ∧ Hid (Lib.IsBuilderF 53 5 w.heap.size w.heap.size (Lib.byteCells acc) wr) ∧ Hid (Below w.heap.size w wr) ∧
    Hid (opn s.data.toList = acc ++ openL f (s.data.toList.drop j)))
  case atStart => exact ⟨0, s.data.toList.length, [], by omega, by omega, rfl, by simp, by rw [len_toList]; omega, builder_new w, (Below.refl _ _).alloc (Nat.le_refl _) _, rfl⟩
  case round =>
    obtain ⟨j, f, acc, rfl, hj, rfl, hal, hf, HBu, HB, HS⟩ := hrel
    by_cases hlt : j < s.size
    · obtain ⟨f', rfl⟩ : ∃ f', f = f' + 1 := ⟨f - 1, by omega⟩
      have HD := Lib.hid (drop_cons s j hlt)
      rw [HD.out] at HS
      obtain ⟨t, ht⟩ : ∃ t, t = s.extract j s.size := ⟨_, rfl⟩
      have ht2 : t.data.toList = s[j] :: s.data.toList.drop (j + 1) := by
        rw [ht, extract_toList, ← HD.out]
        exact List.take_of_length_le (by simp)
      have hts : t.size ≤ 1000000000 := by
        have := congrArg List.length ht2
        rw [len_toList] at this
        simp at this
        omega
      have HT : Hid (s.extract j s.size = t) := ht.symm
      have HC := Lib.hid (HCo.out t wr hts (HEr.out wr HB.out))
      rw [ht2] at HC
      clear ht ht2 hts
      cases hx : codeL (s[j] :: s.data.toList.drop (j + 1)) with
      | some x =>
        rw [hx] at HC
        have h3 : j + 3 ≤ s.size := by
          have := codeL_len hx
          simp at this
          omega
        have HO : Hid (openL (f' + 1) (s[j] :: s.data.toList.drop (j + 1)) = x :: openL f' (s.data.toList.drop (j + 3))) := by
          unfold Hid
          rw [openL_code hx, List.drop_drop]
        clear hx
        go_wp2_with fail
        rw [HT.out]
        with_reducible refine HC.out.mono ?_
        rintro e w1 ⟨x', b, rfl, hci, hb1⟩
        obtain ⟨rfl, rfl⟩ := hci
        have HB1 := Lib.hid (HB.out.trans (hb1.mono HB.out.size))
        have HBu1 := Lib.hid (builder_below HBu.out hb1)
        have HW1 := Lib.hid (HWB.out (Lib.byteCells acc) x w1 HBu1.out (by rw [byteCells_len]; omega) HB1.out.size)
        clear hb1
        go_wp2_with fail
        with_reducible refine HW1.out.mono ?_
        rintro e w2 ⟨rfl, hbu2, hb2, _⟩
        have HB2 := Lib.hid (HB1.out.trans hb2)
        have HBu2 := Lib.hid (Or.inr hbu2 : Lib.IsBuilderF 53 5 w.heap.size w.heap.size _ w2)
        clear hb2 hbu2
        go_wp2_with fail
        go_roundg (s.size - (j + 3))
        case measure => omega
        case rel =>
          refine ⟨j + 3, f', acc ++ [x], rfl, by omega, by go_num, by simp; omega, by omega, ?_, HB2.out, ?_⟩
          · unfold Hid
            rw [byteCells_app, byteCells_one]
            exact HBu2.out
          · unfold Hid
            rw [HS.out, HO.out, List.append_assoc]
            rfl
      | none =>
        rw [hx] at HC
        have HO : Hid (openL (f' + 1) (s[j] :: s.data.toList.drop (j + 1)) = s[j] :: openL f' (s.data.toList.drop (j + 1))) := openL_byte hx
        clear hx
        go_wp2_with fail
        rw [HT.out]
        with_reducible refine HC.out.mono ?_
        rintro e w1 ⟨x', b, rfl, hci, hb1⟩
        obtain rfl : b = false := hci
        have HB1 := Lib.hid (HB.out.trans (hb1.mono HB.out.size))
        have HBu1 := Lib.hid (builder_below HBu.out hb1)
        have HW1 := Lib.hid (HWB.out (Lib.byteCells acc) s[j] w1 HBu1.out (by rw [byteCells_len]; omega) HB1.out.size)
        clear hb1
        go_wp2_with fail
        with_reducible refine HW1.out.mono ?_
        rintro e w2 ⟨rfl, hbu2, hb2, _⟩
        have HB2 := Lib.hid (HB1.out.trans hb2)
        have HBu2 := Lib.hid (Or.inr hbu2 : Lib.IsBuilderF 53 5 w.heap.size w.heap.size _ w2)
        clear hb2 hbu2
        go_wp2_with fail
        go_roundg (s.size - (j + 1))
        case measure => omega
        case rel =>
          refine ⟨j + 1, f', acc ++ [s[j]], rfl, by omega, by go_num, by simp; omega, by omega, ?_, HB2.out, ?_⟩
          · unfold Hid
            rw [byteCells_app, byteCells_one]
            exact HBu2.out
          · unfold Hid
            rw [HS.out, HO.out, List.append_assoc]
            rfl
    · have HEd : Hid (s.data.toList.drop j = []) := List.drop_eq_nil_of_le (by simp; omega)
      have HSt1 := Lib.hid (HSt.out acc wr HBu.out HB.out.size)
      go_wp2_with fail
      with_reducible refine HSt1.out.mono ?_
      rintro e w1 ⟨rfl, _, hb1, _⟩
      have HB1 := Lib.hid (HB.out.trans hb1)
      clear hb1
      go_wp2_with fail
      go_ret
      refine ⟨?_, HB1.out⟩
      rw [HS.out, HEd.out, openL_nil, List.append_nil]
      rfl
end Go.Proofs.YtkmgflnmffdhjaaGreatDoor

/- Contracts of package params: texts that are cut. -/
namespace Go.Proofs.YtkmgflnmffdhjaaGreatDoor
open Go Go.RowKit

def posB (c : UInt8) (l : List UInt8) : Nat := (l.takeWhile (fun x => x != c)).length
theorem posB_le (c : UInt8) (l : List UInt8) : posB c l ≤ l.length := (List.takeWhile_sublist _).length_le
theorem posB_cons (c x : UInt8) (l : List UInt8) : posB c (x :: l) = if x = c then 0 else posB c l + 1 := by
  unfold posB
  rw [List.takeWhile_cons]
  by_cases h : x = c
  · rw [if_pos h, if_neg (by simp [h])]
    rfl
  · rw [if_neg h, if_pos (by simpa using h)]
    rfl
theorem indexByte_pos (c : UInt8) : ∀ l : List UInt8, Lib.indexByte l c = if posB c l < l.length then (posB c l : Int) else -1
  | [] => rfl
  | x :: l => by
    unfold Lib.indexByte
    rw [indexByte_pos c l, posB_cons]
    by_cases h : x = c
    · rw [if_pos (by simpa using h), if_pos h]
      simp
    · rw [if_neg (by simpa using h), if_neg h]
      by_cases h2 : posB c l < l.length
      · rw [if_pos h2, if_neg (by simp), if_pos (by simp; omega)]
        simp
      · rw [if_neg h2, if_pos (by rfl), if_neg (by simp; omega)]
theorem take_pos (c : UInt8) (l : List UInt8) : l.take (posB c l) = l.takeWhile (fun x => x != c) := by
  have h : l.takeWhile (fun x => x != c) ++ l.dropWhile (fun x => x != c) = l := List.takeWhile_append_dropWhile
  have h2 := List.take_left (l₁ := l.takeWhile (fun x => x != c)) (l₂ := l.dropWhile (fun x => x != c))
  rw [h] at h2
  exact h2
theorem drop_pos (c : UInt8) (l : List UInt8) : l.drop (posB c l) = l.dropWhile (fun x => x != c) := by
  have h : l.takeWhile (fun x => x != c) ++ l.dropWhile (fun x => x != c) = l := List.takeWhile_append_dropWhile
  have h2 := List.drop_left (l₁ := l.takeWhile (fun x => x != c)) (l₂ := l.dropWhile (fun x => x != c))
  rw [h] at h2
  exact h2
theorem drop_pos_cons (c : UInt8) (l : List UInt8) (h : posB c l < l.length) : l.dropWhile (fun x => x != c) = c :: l.drop (posB c l + 1) := by
  have h1 := drop_pos c l
  have h2 := List.drop_eq_getElem_cons h
  have h3 : ∀ l : List UInt8, (h : posB c l < l.length) → l[posB c l] = c := by
    intro l
    induction l with
    | nil => intro h; simp [posB] at h
    | cons x l ih =>
      intro h
      by_cases e : x = c
      · have : posB c (x :: l) = 0 := by rw [posB_cons, if_pos e]
        simp only [this, List.getElem_cons_zero]
        exact e
      · have e2 : posB c (x :: l) = posB c l + 1 := by rw [posB_cons, if_neg e]
        simp only [e2, List.getElem_cons_succ]
        exact ih (by rw [e2] at h; simpa using h)
  rw [h3 l h] at h2
  rw [← h1, h2]
theorem drop_pos_nil (c : UInt8) (l : List UInt8) (h : ¬ posB c l < l.length) : l.dropWhile (fun x => x != c) = [] := by
  rw [← drop_pos]
  exact List.drop_eq_nil_of_le (by omega)

theorem indexC_any (s : ByteArray) (c : UInt8) (w : World) :
    Calls Tryz.prog 130 #[.string s, .string ⟨#[c]⟩] w fun e w' => e = .returned (.int .i64 (if posB c s.data.toList < s.size then (posB c s.data.toList : Int) else -1)) ∧ w = w' := by
  refine (Tryz.stringslite_Index_one s c w).mono ?_
  rintro e w' ⟨rfl, rfl⟩
  refine ⟨?_, rfl⟩
  rw [indexByte_pos, len_toList]
set_option maxHeartbeats 1000000 in
theorem cutIn_any (s : ByteArray) (c : UInt8) (w : World) (hl : s.size ≤ 1000000000) :
    Calls Tryz.prog 100 #[.string s, .string ⟨#[c]⟩] w fun e w' => ∃ a b, e = .returned (.tuple #[.string (s.extract 0 (posB c s.data.toList)), .string a, .bool b]) ∧ Below w.heap.size w w' := by
  have HI := Lib.hid (fun W => indexC_any s c W)
  obtain ⟨k, hk⟩ : ∃ k, k = posB c s.data.toList := ⟨_, rfl⟩
  have hks : k ≤ s.size := by rw [hk]; have := posB_le c s.data.toList; rwa [len_toList] at this
  rw [← hk] at HI ⊢
  clear hk
  by_cases h : k < s.size
  · rw [if_pos h] at HI
    go_enter Tryz.func100, Tryz.ntmps100
    go_wp2_with fail
    with_reducible refine (HI.out _).mono ?_
    rintro e w1 ⟨rfl, rfl⟩
    have e1 : IntKind.i64.wrap ((k : Int) + 1) = (k : Int) + 1 := IntWalk.i64_in _ (by omega)
    have e2 : ((k : Int) + 1).toNat = k + 1 := by omega
    go_wp2_with fail
    go_quiet (fail)
    go_wp2
    exact bodyPost_ret (v := .tuple #[.string (s.extract 0 k), .string (s.extract (k + 1) s.size), .bool true]) (by simp [results, Tryz.results100, go_sem]) rfl ⟨_, _, rfl, below_drewN' _⟩
  · rw [if_neg h] at HI
    obtain rfl : k = s.size := by omega
    have HE : Hid (s.extract 0 s.size = s) := bytes_eq (by rw [extract_toList, List.drop_zero, Nat.sub_zero]; exact List.take_of_length_le (by simp))
    go_enter Tryz.func100, Tryz.ntmps100
    go_wp2_with fail
    with_reducible refine (HI.out _).mono ?_
    rintro e w1 ⟨rfl, rfl⟩
    go_wp2
    exact bodyPost_ret (v := .tuple #[.string s, .string ⟨#[]⟩, .bool false]) (by simp [results, Tryz.results100, go_sem]) rfl ⟨_, _, by rw [HE.out], Below.refl _ _⟩
set_option maxHeartbeats 1000000 in
theorem cut_any (s : ByteArray) (w : World) (hl : s.size ≤ 1000000000) :
    Calls Tryz.prog 66 #[.string s, .string ⟨#[42]⟩] w fun e w' => ∃ a b, e = .returned (.tuple #[.string ⟨(baseL s.data.toList).toArray⟩, .string a, .bool b]) ∧ Below w.heap.size w w' := by
  have HI := Lib.hid (fun W => cutIn_any s 42 W hl)
  have HE : Hid (s.extract 0 (posB 42 s.data.toList) = ⟨(baseL s.data.toList).toArray⟩) := bytes_eq (by
    rw [extract_toList, List.drop_zero, Nat.sub_zero, take_pos]
    rfl)
  rw [HE.out] at HI
  go_enter Tryz.func66, Tryz.ntmps66
  go_wp2_with fail
  with_reducible refine (HI.out _).mono ?_
  rintro e w1 ⟨a, b, rfl, hb⟩
  have HB := Lib.hid hb; clear hb
  go_wp2_with fail
  exact bodyPost_ret (v := .tuple #[.string ⟨(baseL s.data.toList).toArray⟩, .string a, .bool b]) (by simp [results, Tryz.results66, go_sem]) rfl ⟨_, _, rfl, HB.out⟩

theorem idx_any (s : ByteArray) (c : UInt8) : Lib.indexB s ⟨#[c]⟩ = if posB c s.data.toList < s.size then (posB c s.data.toList : Int) else -1 := by
  have h := indexByte_pos c s.data.toList
  rw [← Lib.index_one, len_toList] at h
  exact h
theorem Tryz.infoStr9 : (Tryz.prog.info? 9).map (fun i => (i.zero, i.size, i.bytes)) = some (some (.string ByteArray.empty), 1, 16) := by kernel_rfl
theorem genSplit_any (s : ByteArray) (c : UInt8) (n N : Nat) (z m : Int) (hz : ((0 : Nat) : Int) = z) (hm : (n : Int) = m) (w : World) (hs : s.size ≤ 1000000000) (hn : 1 ≤ n) (hn2 : n ≤ 100) (hN : N = min n (s.size + 1)) :
    Calls Tryz.prog 157 #[.string s, .string ⟨#[c]⟩, .int .i64 z, .int .i64 m] w fun e w' =>
      e = .returned (.slice (some ⟨w.heap.size, 0, none⟩) (Lib.splitB ⟨#[c]⟩ 0 (N - 1) s).length N) ∧ w' = w.alloc (.cells (Lib.cellsOf (Lib.splitB ⟨#[c]⟩ 0 (N - 1) s) N) 9) := by
  subst hz hm
  refine Any.strings_genSplit_core Tryz.lays221 Tryz.infoStr9 s ⟨#[c]⟩ 0 (n : Int) N w (by omega) (Nat.le_refl 1) (Nat.zero_le _) (fun x cs _ => ?_) ?_ (by omega) (by omega) ?_
  · refine (Tryz.strings_Index_one x c (w.alloc (.cells cs 9))).mono ?_
    rintro e w' ⟨rfl, rfl⟩
    refine ⟨?_, rfl⟩
    show Ending.returned (.int .i64 (Lib.indexByte x.data.toList c)) = .returned (.int .i64 (Lib.index x.data.toList [c]))
    rw [Lib.index_one]
  · refine (Tryz.strings_Count_one s c w).mono ?_
    rintro e w' ⟨rfl, rfl⟩
    refine ⟨?_, rfl⟩
    show Ending.returned (.int .i64 ((Lib.countByte s.data.toList c : Nat) : Int)) = .returned (.int .i64 ((Lib.count s.data.toList [c] : Nat) : Int))
    rw [Lib.count_one]
    rfl
  · rw [if_neg (by omega)]
    omega

theorem bare_parts (s : ByteArray) (N : Nat) (hN : N = min 3 (s.size + 1)) :
    ((Lib.splitB ⟨#[39]⟩ 0 (N - 1) s).length < 3 ∧ bareL s.data.toList = s.data.toList) ∨
    (∃ a b c, Lib.splitB ⟨#[39]⟩ 0 (N - 1) s = [a, b, c] ∧ c.data.toList = bareL s.data.toList) := by
  have hi := idx_any s 39
  by_cases h1 : posB 39 s.data.toList < s.size
  · rw [if_pos h1] at hi
    have hl1 : posB 39 s.data.toList < s.data.toList.length := by rw [len_toList]; exact h1
    have hd1 := drop_pos_cons 39 s.data.toList hl1
    obtain ⟨i, hie⟩ : ∃ i, i = posB 39 s.data.toList := ⟨_, rfl⟩
    rw [← hie] at hi hd1 h1 hl1
    obtain ⟨M, hM⟩ : ∃ M, N - 1 = M + 1 := ⟨N - 2, by omega⟩
    have hsplit := Lib.splitB_hit ⟨#[39]⟩ 0 M s i hi
    rw [hM]
    obtain ⟨t, ht⟩ : ∃ t, t = s.extract (i + 1) s.size := ⟨_, rfl⟩
    have ht2 : t.data.toList = s.data.toList.drop (i + 1) := by
      rw [ht, extract_toList]
      exact List.take_of_length_le (by simp)
    have hts : t.size = s.size - (i + 1) := by
      have := congrArg List.length ht2
      rw [List.length_drop, len_toList, len_toList] at this
      exact this
    have hsplit2 : Lib.splitB ⟨#[39]⟩ 0 (M + 1) s = s.extract 0 (i + 0) :: Lib.splitB ⟨#[39]⟩ 0 M t := by rw [ht]; exact hsplit
    have hj := idx_any t 39
    have hb : bareL s.data.toList = match (t.data.toList).dropWhile (fun c => c != 39) with | _ :: r2 => r2 | [] => s.data.toList := by
      unfold bareL
      rw [hd1, ht2]
      rfl
    by_cases h2 : posB 39 t.data.toList < t.size
    · rw [if_pos h2] at hj
      have hl2 : posB 39 t.data.toList < t.data.toList.length := by rw [len_toList]; exact h2
      have hd2 := drop_pos_cons 39 t.data.toList hl2
      obtain ⟨K, hK⟩ : ∃ K, M = K + 1 := ⟨M - 1, by omega⟩
      have hK0 : K = 0 := by omega
      subst hK0 hK
      have hsplit3 := Lib.splitB_hit ⟨#[39]⟩ 0 0 t _ hj
      refine .inr ⟨_, _, _, by rw [hsplit2, hsplit3]; rfl, ?_⟩
      rw [hb, hd2, extract_toList]
      simp only
      exact List.take_of_length_le (by simp)
    · rw [if_neg h2] at hj
      have hsplit3 := Lib.splitB_miss ⟨#[39]⟩ 0 M t hj
      refine .inl ⟨by rw [hsplit2, hsplit3]; simp, ?_⟩
      rw [hb, drop_pos_nil 39 _ (by rw [len_toList]; exact h2)]
  · rw [if_neg h1] at hi
    refine .inl ⟨by rw [Lib.splitB_miss _ _ _ _ hi]; simp, ?_⟩
    unfold bareL
    rw [drop_pos_nil 39 _ (by rw [len_toList]; exact h1)]

set_option maxRecDepth 100000 in
theorem splitN_any (s : ByteArray) (w : World) (hs : s.size ≤ 1000000000) :
    Calls Tryz.prog 133 #[.string s, .string ⟨#[39]⟩, .int .i64 3] w fun e w' => ∃ ps : List ByteArray, ∃ N : Nat, e = .returned (.slice (some ⟨w.heap.size, 0, none⟩) ps.length N) ∧ w' = w.alloc (.cells (Lib.cellsOf ps N) 9) ∧
      ((ps.length < 3 ∧ bareL s.data.toList = s.data.toList) ∨ (∃ a b c, ps = [a, b, c] ∧ c.data.toList = bareL s.data.toList)) := by
  have HG := Lib.hid (fun W => genSplit_any s 39 3 (min 3 (s.size + 1)) 0 3 rfl rfl W hs (by decide) (by decide) rfl)
  have HB := Lib.hid (bare_parts s (min 3 (s.size + 1)) rfl)
  go_enter Tryz.func133, Tryz.ntmps133
  go_wp2_with fail
  with_reducible refine (HG.out _).mono ?_
  rintro e w1 ⟨rfl, hw⟩
  have HW := Lib.hid hw
  clear hw
  go_wp2_with fail
  go_ret
  exact ⟨_, _, rfl, HW.out, HB.out⟩

set_option maxRecDepth 100000 in
theorem behindMarks_any (s : ByteArray) (w : World) (hs : s.size ≤ 1000000000) :
    Calls Tryz.prog 103 #[.string s] w fun e w' => e = .returned (.string ⟨(bareL s.data.toList).toArray⟩) ∧ Below w.heap.size w w' := by
  have HS := Lib.hid (fun W => splitN_any s W hs)
  go_enter Tryz.func103, Tryz.ntmps103
  go_wp2_with fail
  with_reducible refine (HS.out _).mono ?_
  rintro e w1 ⟨ps, N, rfl, hw, hps⟩
  have HB : Hid (Below w.heap.size w w1) := by rw [hw]; exact (Below.refl _ _).alloc (Nat.le_refl _) _
  have HW := Lib.hid hw
  clear hw
  rcases hps with ⟨h1, h2⟩ | ⟨a, b, c, rfl, hc⟩
  · have h3 : ((ps.length : Nat) : Int) < 3 := by omega
    have HE : Hid (s = ⟨(bareL s.data.toList).toArray⟩) := bytes_eq (by rw [h2])
    clear h1 h2
    go_wp2_with fail
    go_ret
    exact ⟨ret_str HE.out, HB.out⟩
  · have HE : Hid (c = ⟨(bareL s.data.toList).toArray⟩) := bytes_eq (by rw [hc])
    have c2 : w1.cell? ⟨w.heap.size, 2, none⟩ = some (.string c) := by
      rw [HW.out]
      simp only [World.cell?, heap_alloc_new]
      simp [Lib.cellsOf]
    clear hc
    go_wp2_with fail
    go_ret
    exact ⟨ret_str HE.out, HB.out⟩
end Go.Proofs.YtkmgflnmffdhjaaGreatDoor
