/- Contracts of package addr: a quoted text. -/
import Derived.Test.YtkmgflnmffdhjaaGreatDoorGbShelf5
import Derived.Test.YtkmgflnmffdhjaaGreatDoorShelf2
import Derived.Lib.BufferOwn
import Derived.Deep.AppendSrc
namespace Go.Proofs.YtkmgflnmffdhjaaGreatDoor
open Go Go.RowKit

theorem builder_below {T e : TypeId} {B b : Nat} {bs : List Value} {w w' : World} (h : Lib.IsBuilderF T e B b bs w) (hb : Below w.heap.size w w') : Lib.IsBuilderF T e B b bs w' := by
  have key : ∀ p, Lib.BuilderAtF T e B b p bs w → Lib.BuilderAtF T e B b p bs w' := by
    intro p h
    have hlt := h.lt
    obtain ⟨hB, v, hbk, hown, hne⟩ := h
    exact ⟨hB, v, (hb.block b hlt).trans hbk, hown.kept (row := none) ⟨hb.1, hb.2, hb.3, hb.size, fun k hk _ => hb.block k hk⟩ (by cases v.ownBlock <;> simp), hne⟩
  exact h.imp (key _) (key _)
theorem builder_new (w : World) : Lib.IsBuilderF 53 5 w.heap.size w.heap.size (Lib.byteCells []) (w.alloc (.cells #[.pointer none, .slice none 0 0] 53)) :=
  .inl ⟨Nat.le_refl _, .slice none 0 0, heap_alloc_new w _, World.ownsRowF_nil _ _ _ _, by simp [Value.ownBlock]⟩
theorem byteCells_app (a b : List UInt8) : Lib.byteCells (a ++ b) = Lib.byteCells a ++ Lib.byteCells b := by
  unfold Lib.byteCells
  simp
theorem byteCells_len (a : List UInt8) : (Lib.byteCells a).length = a.length := by
  unfold Lib.byteCells
  simp
theorem byteCells_one (c : UInt8) : Lib.byteCells [c] = [.int .u8 (c.toNat : Int)] := rfl
theorem strCells_bytes (a : List UInt8) : Lib.strCells ⟨a.toArray⟩ = Lib.byteCells a := by
  unfold Lib.strCells Lib.byteCells
  simp
def unqIsA (l : List UInt8) (s : ByteArray) (v : List UInt8) (j : Nat) (b : Bool) : Prop :=
  match unqL false [] l with
  | some (v', r) => b = true ∧ v = v' ∧ s.data.toList.drop j = r
  | none => b = false ∧ v = [] ∧ j = s.size
theorem unqIs_noneA {l : List UInt8} {s : ByteArray} {j : Nat} (h : unqL false [] l = none) (hj : j = s.size) : unqIsA l s [] j false := by unfold unqIsA; rw [h]; exact ⟨rfl, rfl, hj⟩
theorem unqIs_someA {l v r : List UInt8} {s : ByteArray} {j : Nat} (h : unqL false [] l = some (v, r)) (hr : s.data.toList.drop j = r) : unqIsA l s v j true := by unfold unqIsA; rw [h]; exact ⟨rfl, rfl, hr⟩

set_option maxRecDepth 100000 in
set_option maxHeartbeats 2000000 in
theorem aUnquoted_any (s : ByteArray) (k : Nat) (w : World) (hl : s.size ≤ 1000000000) (hk : k < s.size) :
    Calls Tryz.prog 221 #[.string s, .int .i64 (k : Int)] w fun e w' => ∃ (v : List UInt8) (j : Nat) (b : Bool), e = .returned (.tuple #[.string ⟨v.toArray⟩, .int .i64 (j : Int), .bool b]) ∧ j ≤ s.size ∧
      unqIsA (s.data.toList.drop (k + 1)) s v j b ∧ Below w.heap.size w w' := by
  have HWB := Lib.hid (fun bs (c : UInt8) W h hlen hB => Tryz.Builder_WriteByte_k w.heap.size w.heap.size bs (c.toNat : Int) W h hlen hB)
  have HSt := Lib.hid (fun l W h => Tryz.Builder_String_any_k w.heap.size w.heap.size l W h)
  go_enter Tryz.func221, Tryz.ntmps221
  go_wp2_with fail
  go_loopg [1] (s.size - (k + 1)) (fun g v1 wr => ∃ (j : Nat) (acc : List UInt8), g = s.size - j ∧ k + 1 ≤ j ∧ j ≤ s.size ∧ v1 = .int .i64 (j : Int) ∧ acc.length ≤ j ∧ Hid (Lib.IsBuilderF 53 5 w.heap.size w.heap.size (Lib.byteCells acc) wr) ∧ Hid (Below w.heap.size w wr) ∧
    Hid (unqL false [] (s.data.toList.drop (k + 1)) = unqL false acc (s.data.toList.drop j)))
  case atStart => exact ⟨k + 1, [], by omega, by omega, by omega, by go_num, by simp, builder_new w, (Below.refl _ _).alloc (Nat.le_refl _) _, rfl⟩
  case round =>
    obtain ⟨j, acc, rfl, hkj, hj, rfl, hal, HBu, HB, HS⟩ := hrel
    by_cases hlt : j < s.size
    · have HD := Lib.hid (drop_cons s j hlt)
      rw [HD.out] at HS
      have hci := byte_lt s[j]
      by_cases h34 : s[j].toNat = 34
      · have b1 : (((s[j].toNat : Nat) : Int) == 34) = true := beq_yes (by omega)
        have HC : Hid (s[j] = 34) := toNat_eq h34
        have HSt1 := Lib.hid (HSt.out acc wr HBu.out HB.out.size)
        clear h34
        go_wp2_with fail
        with_reducible refine HSt1.out.mono ?_
        rintro e w1 ⟨rfl, _, hb1, _⟩
        have HB1 := Lib.hid (HB.out.trans hb1)
        clear hb1
        go_wp2_with fail
        refine bodyPost_ret (v := .tuple #[.string ⟨acc.toArray⟩, .int .i64 (((j : Nat) : Int) + 1), .bool true]) (by simp [results, Tryz.results221, go_sem]) rfl ?_
        refine ⟨acc, j + 1, true, by go_num, by omega, unqIs_someA (r := s.data.toList.drop (j + 1)) ?_ rfl, HB1.out⟩
        rw [HS.out, HC.out]
        rfl
      · have b1 : (((s[j].toNat : Nat) : Int) == 34) = false := beq_no (by omega)
        have HN : Hid (s[j] ≠ 34) := fun e => h34 (by rw [e]; rfl)
        by_cases h92 : s[j].toNat = 92
        · have b2 : (((s[j].toNat : Nat) : Int) == 92) = true := beq_yes (by omega)
          have HC : Hid (s[j] = 92) := toNat_eq h92
          clear h92 h34
          by_cases hje : j + 1 = s.size
          · have b3 : (((j : Int) + 1) == (s.size : Int)) = true := beq_yes (by omega)
            have HE : Hid (s.data.toList.drop (j + 1) = []) := List.drop_eq_nil_of_le (by simp; omega)
            have HJE := Lib.hid hje
            clear hje
            go_wp2_with fail
            refine bodyPost_ret (v := .tuple #[.string ⟨#[]⟩, .int .i64 (((j : Nat) : Int) + 1), .bool false]) (by simp [results, Tryz.results221, go_sem]) rfl ?_
            refine ⟨[], j + 1, false, by go_num, by omega, unqIs_noneA ?_ HJE.out, HB.out⟩
            rw [HS.out, HC.out, HE.out]
            rfl
          · have b3 : (((j : Int) + 1) == (s.size : Int)) = false := beq_no (by omega)
            have hlt2 : j + 1 < s.size := by omega
            have HD2 := Lib.hid (drop_cons s (j + 1) hlt2)
            have HW1 := Lib.hid (HWB.out (Lib.byteCells acc) s[j + 1] wr HBu.out (by rw [byteCells_len]; omega) HB.out.size)
            have hj1 : ((j : Int) + 1).toNat = j + 1 := by omega
            go_wp2_with fail
            with_reducible refine HW1.out.mono ?_
            rintro e w1 ⟨rfl, hbu1, hb1, _⟩
            have HB1 := Lib.hid (HB.out.trans hb1)
            have HBu1 := Lib.hid (Or.inr hbu1 : Lib.IsBuilderF 53 5 w.heap.size w.heap.size _ w1)
            clear hb1 hbu1
            go_wp2_with fail
            go_roundg (s.size - (j + 2))
            case measure => omega
            case rel =>
              refine ⟨j + 2, acc ++ [s[j + 1]], rfl, by omega, by omega, by go_num, by simp; omega, ?_, HB1.out, ?_⟩
              · unfold Hid
                rw [byteCells_app, byteCells_one]
                exact HBu1.out
              · unfold Hid
                rw [HS.out, HC.out, HD2.out]
                rfl
        · have b2 : (((s[j].toNat : Nat) : Int) == 92) = false := beq_no (by omega)
          have HN2 : Hid (s[j] ≠ 92) := fun e => h92 (by rw [e]; rfl)
          have HW1 := Lib.hid (HWB.out (Lib.byteCells acc) s[j] wr HBu.out (by rw [byteCells_len]; omega) HB.out.size)
          clear h92 h34
          go_wp2_with fail
          with_reducible refine HW1.out.mono ?_
          rintro e w1 ⟨rfl, hbu1, hb1, _⟩
          have HB1 := Lib.hid (HB.out.trans hb1)
          have HBu1 := Lib.hid (Or.inr hbu1 : Lib.IsBuilderF 53 5 w.heap.size w.heap.size _ w1)
          clear hb1 hbu1
          go_wp2_with fail
          go_roundg (s.size - (j + 1))
          case measure => omega
          case rel =>
            refine ⟨j + 1, acc ++ [s[j]], rfl, by omega, by omega, by go_num, by simp; omega, ?_, HB1.out, ?_⟩
            · unfold Hid
              rw [byteCells_app, byteCells_one]
              exact HBu1.out
            · unfold Hid
              rw [HS.out]
              show (if s[j] = 34 then _ else if s[j] = 92 then _ else _) = _
              rw [if_neg HN.out, if_neg HN2.out]
    · have HE : Hid (s.data.toList.drop j = []) := List.drop_eq_nil_of_le (by simp; omega)
      go_wp2_with fail
      refine bodyPost_ret (v := .tuple #[.string ⟨#[]⟩, .int .i64 ((j : Nat)), .bool false]) (by simp [results, Tryz.results221, go_sem]) rfl ?_
      refine ⟨[], j, false, rfl, hj, unqIs_noneA ?_ (by omega), HB.out⟩
      rw [HS.out, HE.out]
      rfl

end Go.Proofs.YtkmgflnmffdhjaaGreatDoor
