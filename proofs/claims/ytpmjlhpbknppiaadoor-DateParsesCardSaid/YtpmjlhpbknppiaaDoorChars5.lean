/- Contracts of Split and the document's Split. -/
import Derived.Test.YtpmjlhpbknppiaaDoorChars4
namespace Go.Proofs.YtpmjlhpbknppiaaDoor
open Go Go.RowKit

def strV (l : List UInt8) : Value := .string ⟨l.toArray⟩
theorem strV_extract (s : ByteArray) (a b : Nat) : strV ((s.data.toList.drop a).take (b - a)) = .string (s.extract a b) := by
  unfold strV
  congr 1
  apply bytes_eq
  rw [extract_toList]
theorem strV_bytes (s : ByteArray) : strV s.data.toList = .string s := by
  unfold strV
  congr 1

theorem Tryd.infoStr : (Tryd.prog.info? 9).map (fun i => (i.zero, i.size, i.bytes)) = some (some (.string ⟨#[]⟩), 1, 16) := by kernel_rfl

theorem splitAux_at {c : UInt8} {s : ByteArray} {k f : Nat} (hk : k < s.size) (h : s[k] = c) :
    splitAux c (s.data.toList.drop k) ((s.data.toList.drop f).take (k - f)) = ((s.data.toList.drop f).take (k - f)) :: splitAux c (s.data.toList.drop (k + 1)) ((s.data.toList.drop (k + 1)).take (k + 1 - (k + 1))) := by
  rw [drop_cons s k hk, splitAux, if_pos h]
  simp
theorem take_drop_snoc {s : ByteArray} {k f : Nat} (hk : k < s.size) (hf : f ≤ k) : (s.data.toList.drop f).take (k + 1 - f) = (s.data.toList.drop f).take (k - f) ++ [s[k]] := by
  have h1 : k + 1 - f = (k - f) + 1 := by omega
  rw [h1, List.take_add_one, List.getElem?_drop]
  have h2 : f + (k - f) = k := by omega
  rw [h2, bytes_get s k hk]
  rfl
theorem splitAux_not {c : UInt8} {s : ByteArray} {k f : Nat} (hk : k < s.size) (hf : f ≤ k) (h : ¬ s[k] = c) :
    splitAux c (s.data.toList.drop k) ((s.data.toList.drop f).take (k - f)) = splitAux c (s.data.toList.drop (k + 1)) ((s.data.toList.drop f).take (k + 1 - f)) := by
  rw [drop_cons s k hk, splitAux, if_neg h, take_drop_snoc hk hf]

theorem add_one_byte {s t : ByteArray} {cur : List UInt8} {k : Nat} (hk : k < s.size) (h : t.data.toList = cur) : (t ++ s.extract k (k + 1)).data.toList = cur ++ [s[k]] := by
  rw [ByteArray.data_append, Array.toList_append, h, extract_toList, drop_cons s k hk]
  simp

theorem refSplit_any (s : ByteArray) (c : UInt8) (w : World) (hl : s.size ≤ 4398046511103) :
    Calls Tryd.prog 36 #[.string s, .int .u8 c.toNat] w fun e w' => ∃ v, e = .returned v ∧ w'.ownsRow w.heap.size 9 1 v (splitS c s.data.toList).length ((splitS c s.data.toList).map strV) ∧ Below w.heap.size w w' := by
  obtain ⟨i0, hi, hz0, hz1, hz2⟩ := info_parts Tryd.infoStr
  go_enter Tryd.func36, Tryd.ntmps36
  go_wp2
  go_loopg [5, 6, 7] s.size (fun g o fv v wr => ∃ (k : Nat) (t : ByteArray) (ps : List (List UInt8)), k ≤ s.size ∧ t.size ≤ k ∧ g = s.size - k ∧ v = .int .i64 k ∧ fv = .string t ∧ ps.length ≤ k ∧ wr.ownsRow w.heap.size 9 1 o ps.length (ps.map strV) ∧ Hid (Below w.heap.size w wr) ∧ Hid (ps ++ splitAux c (s.data.toList.drop k) t.data.toList = splitS c s.data.toList))
  case atStart => exact ⟨0, ⟨#[]⟩, [], by omega, Nat.zero_le _, rfl, rfl, rfl, by simp, World.ownsRow_nil _ _ _ _, Below.refl _ _, rfl⟩
  case round =>
    obtain ⟨k, t, ps, hk, hf, rfl, rfl, rfl, hps, hown, HB, HS⟩ := hrel
    have HO := Lib.hid hown
    clear hown
    by_cases hlt : k < s.size
    · by_cases hc : s[k] = c
      · have ht : ((s[k].toNat : Int) == (c.toNat : Int)) = true := by rw [hc]; simp
        have HC := Lib.hid hc
        clear hc
        go_wp2_with (at_builtin; refine wpList_append_own _ rfl _ _ 35 rfl w.heap.size 9 i0 (.string ⟨#[]⟩) 1 16 Tryd.underlying35 hi hz0 hz1 hz2 rfl (by decide) _ _ _ rfl (HO.out.alloc _) ⟨wr.heap.size, 0, none⟩ 1 1 [.string t] rfl rfl ?c1 ?c2 ?c3 ?c4 ?c5 ?_)
        case c1 => exact cell_one_new wr _ _
        case c2 => intro u hu; simp at hu; subst hu; rfl
        case c3 => unfold maxLen; omega
        case c4 => omega
        case c5 => simp; have := HB.out.size; omega
        intro v' w1 hown1 hgrow1 _
        have HO1 := Lib.hid hown1
        have HB1 : Hid (Below w.heap.size w w1) := (HB.out.alloc (by have := HB.out.size; omega) _).grown hgrow1 (by have := HB.out.size; simp; omega) (fun q hq => (HO.out.lt q hq).1)
        clear hown1 hgrow1
        go_wp2
        go_roundg (s.size - (k + 1))
        case measure => omega
        case rel =>
          refine ⟨k + 1, ⟨#[]⟩, ps ++ [t.data.toList], by omega, Nat.zero_le _, rfl, by go_num, rfl, by simp; omega, ?_, HB1, ?_⟩
          · have := HO1.out
            rw [← strV_bytes] at this
            simpa using this
          · have := HS.out
            rw [drop_cons s k hlt, splitAux, if_pos HC.out] at this
            unfold Hid
            rw [← this, List.append_assoc]
            rfl
      · have ht : ((s[k].toNat : Int) == (c.toNat : Int)) = false := by
          have : ¬ s[k].toNat = c.toNat := fun h => hc (UInt8.toNat_inj.1 h)
          simp; omega
        have HC := Lib.hid hc
        have HX := Lib.hid (extract_size' s k (k + 1) (by omega))
        have hx : (s.extract k (k + 1)).size ≤ 1 := by rw [HX.out]; omega
        clear hc
        go_wp2
        go_roundg (s.size - (k + 1))
        case measure => omega
        case rel =>
          refine ⟨k + 1, t ++ s.extract k (k + 1), ps, by omega, by rw [ByteArray.size_append]; omega, rfl, by go_num, rfl, by omega, HO.out, HB, ?_⟩
          have := HS.out
          rw [drop_cons s k hlt, splitAux, if_neg HC.out, ← add_one_byte hlt rfl] at this
          exact this
    · go_wp2_with (at_builtin; refine wpList_append_own _ rfl _ _ 35 rfl w.heap.size 9 i0 (.string ⟨#[]⟩) 1 16 Tryd.underlying35 hi hz0 hz1 hz2 rfl (by decide) _ _ _ rfl (HO.out.alloc _) ⟨wr.heap.size, 0, none⟩ 1 1 [.string t] rfl rfl ?c1 ?c2 ?c3 ?c4 ?c5 ?_)
      case c1 => exact cell_one_new wr _ _
      case c2 => intro u hu; simp at hu; subst hu; rfl
      case c3 => unfold maxLen; omega
      case c4 => omega
      case c5 => simp; have := HB.out.size; omega
      intro v' w1 hown1 hgrow1 _
      have HO1 := Lib.hid hown1
      have HB1 : Hid (Below w.heap.size w w1) := (HB.out.alloc (by have := HB.out.size; omega) _).grown hgrow1 (by have := HB.out.size; simp; omega) (fun q hq => (HO.out.lt q hq).1)
      clear hown1 hgrow1
      go_wp2
      go_ret
      refine ⟨v', rfl, ?_, HB1.out⟩
      have e1 := HS.out
      rw [List.drop_eq_nil_of_le (by simp; omega), splitAux] at e1
      have := HO1.out
      rw [← strV_bytes] at this
      rw [← e1]
      simpa using this
end Go.Proofs.YtpmjlhpbknppiaaDoor
