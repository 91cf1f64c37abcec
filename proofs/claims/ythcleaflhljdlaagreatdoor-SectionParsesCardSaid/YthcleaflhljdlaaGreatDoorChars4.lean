/- Contracts of Same, Fold and the document's Fold. -/
import Derived.Test.YthcleaflhljdlaaGreatDoorChars3
import Derived.Laws.IdiomStrings
namespace Go.Proofs.YthcleaflhljdlaaGreatDoor
open Go Go.RowKit

theorem lowI_nat (b : UInt8) : lowI (b.toNat : Int) = ((lowB b).toNat : Int) := by
  unfold lowI
  rw [lowB_toNat]
  by_cases h : 65 ≤ b.toNat ∧ b.toNat ≤ 90
  · rw [if_pos (by omega), if_pos h]; omega
  · rw [if_neg (by omega), if_neg h]
theorem lowerB_any (b : UInt8) (w : World) :
    Calls Tryz.prog 71 #[.int .u8 b.toNat] w fun e w' => e = .returned (.int .u8 (lowB b).toNat) ∧ w = w' := by
  have h := lower_any b.toNat w (by omega) (by have := b.toNat_lt; omega)
  rw [lowI_nat] at h
  exact h
theorem refLowerB_any (b : UInt8) (w : World) :
    Calls Tryz.prog 49 #[.int .u8 b.toNat] w fun e w' => e = .returned (.int .u8 (lowB b).toNat) ∧ w = w' := by
  have h := refLower_any b.toNat w (by omega) (by have := b.toNat_lt; omega)
  rw [lowI_nat] at h
  exact h

theorem fold_eq_of {a b : ByteArray} (hn : a.size = b.size) (h : ∀ j, (h1 : j < a.size) → (h2 : j < b.size) → lowB a[j] = lowB b[j]) : foldS a.data.toList = foldS b.data.toList := by
  unfold foldS
  apply List.ext_getElem
  · simpa using hn
  · intro i h1 h2
    simp only [List.getElem_map]
    exact h i (by simpa using h1) (by simpa using h2)
theorem fold_ne_of {a b : ByteArray} {j : Nat} (h1 : j < a.size) (h2 : j < b.size) (h : ¬ lowB a[j] = lowB b[j]) : ¬ foldS a.data.toList = foldS b.data.toList := by
  intro e
  apply h
  have := congrArg (fun l => l[j]?) e
  simp only [foldS, List.getElem?_map, bytes_get a j h1, bytes_get b j h2] at this
  exact Option.some.inj this
theorem fold_ne_len {a b : ByteArray} (h : ¬ a.size = b.size) : ¬ foldS a.data.toList = foldS b.data.toList := by
  intro e
  apply h
  have := congrArg List.length e
  simpa [foldS] using this

theorem same_any (a b : ByteArray) (w : World) (hl : a.size ≤ 9223372036854775807) :
    Calls Tryz.prog 63 #[.string a, .string b] w fun e w' => e = .returned (.bool (decide (foldS a.data.toList = foldS b.data.toList))) ∧ ∃ n, w' = w.drewN n := by
  by_cases hn : a.size = b.size
  · have HN := Lib.hid hn
    have hn1 : b.size ≤ a.size := by omega
    have hn2 : a.size ≤ b.size := by omega
    have ht : ((a.size : Int) != (b.size : Int)) = false := by simp; omega
    clear hn
    go_enter Tryz.func63, Tryz.ntmps63
    go_wp2
    clear ht
    go_loopg [5] a.size (fun g v wr => ∃ k : Nat, k ≤ a.size ∧ g = a.size - k ∧ v = .int .i64 k ∧ Hid (∃ n, wr = w.drewN n) ∧ Hid (∀ j, (h1 : j < a.size) → (h2 : j < b.size) → j < k → lowB a[j] = lowB b[j]))
    case atStart => exact ⟨0, by omega, rfl, rfl, ⟨0, rfl⟩, fun j _ _ h => by omega⟩
    case round =>
      obtain ⟨k, hk, rfl, rfl, HW, HA⟩ := hrel
      by_cases hlt : k < a.size
      · have hlt2 : k < b.size := by omega
        by_cases he : lowB a[k] = lowB b[k]
        case' pos => have ht : (((lowB a[k]).toNat : Int) != ((lowB b[k]).toNat : Int)) = false := by rw [he]; simp
        case' neg => have ht : (((lowB a[k]).toNat : Int) != ((lowB b[k]).toNat : Int)) = true := by { have : ¬ (lowB a[k]).toNat = (lowB b[k]).toNat := fun h => he (UInt8.toNat_inj.1 h); simp; omega }
        all_goals
          have HE := Lib.hid he
          clear he
          go_wp2_with fail
          go_quiet ((go_at_call 71; exact quiet_same' (lowerB_any _ _)))
          go_wp2
        · go_ret
          refine ⟨ret_bool (decide_eq_false (fold_ne_of hlt hlt2 HE.out)).symm, ?_⟩
          obtain ⟨n, rfl⟩ := HW.out
          exact ⟨n + nq, World.drewN_drewN _ _ _⟩
        · go_roundg (a.size - (k + 1))
          case measure => omega
          case rel =>
            refine ⟨k + 1, by omega, rfl, by go_num, ?_, ?_⟩
            · obtain ⟨n, rfl⟩ := HW.out
              exact ⟨n + nq, World.drewN_drewN _ _ _⟩
            · intro j h1 h2 h3
              by_cases e : j = k
              · subst e; exact HE.out
              · exact HA.out j h1 h2 (by omega)
      · go_wp2
        go_ret
        exact ⟨ret_bool (decide_eq_true (fold_eq_of HN.out fun j h1 h2 => HA.out j h1 h2 (by omega))).symm, HW.out⟩
  · have ht : ((a.size : Int) != (b.size : Int)) = true := by simp; omega
    have HN := Lib.hid hn
    clear hn
    go_enter Tryz.func63, Tryz.ntmps63
    go_wp2
    go_ret
    exact ⟨ret_bool (decide_eq_false (fold_ne_len HN.out)).symm, 0, rfl⟩
theorem foldS_set (l : List UInt8) (k : Nat) (h : k < l.length) : (foldS (l.take k) ++ l.drop k).set k (lowB l[k]) = foldS (l.take (k + 1)) ++ l.drop (k + 1) := by
  unfold foldS
  rw [List.set_append_right _ _ (by simp; omega), List.take_succ_eq_append_getElem h, List.drop_eq_getElem_cons h]
  have e : k - (l.take k |>.map lowB).length = 0 := by simp; omega
  rw [e, List.set_cons_zero, List.map_append, List.append_assoc]
  rfl

theorem Tryz.infoU8 : (Tryz.prog.info? 5).map (fun i => (i.zero, i.size, i.bytes)) = some (some (.int .u8 0), 1, 1) := by kernel_rfl

theorem refFold_any (s : ByteArray) (w : World) (hl : s.size ≤ 8796093022207) :
    Calls Tryz.prog 36 #[.string s] w fun e w' => e = .returned (.string ⟨(foldS s.data.toList).toArray⟩) ∧ Below w.heap.size w w' := by
  obtain ⟨i0, hi, hz0, hz1, hz2⟩ := info_parts Tryz.infoU8
  go_enter Tryz.func36, Tryz.ntmps36
  go_wp2
  go_loopg [3, 4] s.size (fun g o v wr => ∃ k : Nat, k ≤ s.size ∧ g = s.size - k ∧ v = .int .i64 k ∧ wr.ownsRow w.heap.size 5 1 o k ((foldS (s.data.toList.take k)).map byteV) ∧ Hid (Below w.heap.size w wr))
  case atStart => exact ⟨0, by omega, rfl, rfl, World.ownsRow_nil _ _ _ _, Below.refl _ _⟩
  case round =>
    obtain ⟨k, hk, rfl, rfl, hown, HB⟩ := hrel
    by_cases hlt : k < s.size
    · have HO := Lib.hid hown
      clear hown
      go_wp2_with (first | (go_at_call 49; refine (refLowerB_any _ _).mono ?_; rintro e w' ⟨rfl, rfl⟩) | (at_builtin; refine wpList_append_own _ rfl _ _ 42 rfl w.heap.size 5 i0 (.int .u8 0) 1 1 Tryz.underlying42 hi hz0 hz1 hz2 rfl (by decide) _ _ _ rfl (HO.out.alloc _) ⟨wr.heap.size, 0, none⟩ 1 1 [byteV (lowB s[k])] rfl rfl ?c1 ?c2 ?c3 ?c4 ?c5 ?_))
      case c1 => exact cell_one_new wr _ _
      case c2 => intro u hu; simp at hu; subst hu; rfl
      case c3 => unfold maxLen; omega
      case c4 => omega
      case c5 => simp; have := HB.out.size; omega
      intro v' w1 hown1 hgrow1 _
      have HO1 := Lib.hid hown1
      have HB1 : Hid (Below w.heap.size w w1) := (HB.out.alloc (by have := HB.out.size; omega) _).grown hgrow1 (by have := HB.out.size; simp; omega) (fun q hq => (HO.out.lt q hq).1)
      clear hown1 hgrow1
      go_wp2
      go_roundg (s.size - (k + 1))
      case measure => omega
      case rel =>
        refine ⟨k + 1, by omega, rfl, by go_num, ?_, HB1⟩
        have := HO1.out
        rw [take_snoc s k hlt]
        simpa [foldS] using this
    · have HO := Lib.hid hown
      clear hown
      have hst := run_string_of_owned (P := Tryz.prog) Tryz.underlying42 Tryz.underlying5 Tryz.underlying9 HO.out
      rw [take_all s k hlt] at hst
      go_wp2
      go_ret
      exact ⟨rfl, HB.out⟩
end Go.Proofs.YthcleaflhljdlaaGreatDoor
