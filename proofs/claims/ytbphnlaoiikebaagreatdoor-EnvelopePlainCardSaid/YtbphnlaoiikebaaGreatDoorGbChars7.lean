/- Contracts of Trim and of the document's Trim. -/
import Derived.Test.YtbphnlaoiikebaaGreatDoorGbCharsM
import Derived.Laws.IdiomStrings
import Derived.Test.YtbphnlaoiikebaaGreatDoorShelf4
import Derived.Lib.ItoaLen
import Derived.Lib.AppendIntMem
namespace Go.Proofs.YtbphnlaoiikebaaGreatDoor
open Go Go.RowKit

theorem blank_yes (c : Int) (w : World) (h : c = 32 ∨ c = 9) :
    Calls Tryz.prog 76 #[.int .u8 c] w fun e w' => e = .returned (.bool true) ∧ w = w' :=
  (blank_any c w).mono fun _ _ ⟨he, hw⟩ => ⟨by rw [he, decide_eq_true h], hw⟩
theorem blank_no (c : Int) (w : World) (h : ¬ (c = 32 ∨ c = 9)) :
    Calls Tryz.prog 76 #[.int .u8 c] w fun e w' => e = .returned (.bool false) ∧ w = w' :=
  (blank_any c w).mono fun _ _ ⟨he, hw⟩ => ⟨by rw [he, decide_eq_false h], hw⟩

theorem blk_true {b : UInt8} (h : (b.toNat : Int) = 32 ∨ (b.toNat : Int) = 9) : blk b = true := decide_eq_true h
theorem blk_false {b : UInt8} (h : ¬ ((b.toNat : Int) = 32 ∨ (b.toNat : Int) = 9)) : blk b = false := decide_eq_false h

/-- What the first loop of Trim has cut off is blank; what the second one has cut off, too. -/
theorem trim_step1 {s t : ByteArray} {a b : List UInt8} (h : s.data.toList = a ++ t.data.toList ++ b) (ha : a.all blk = true) (h0 : 0 < t.size) (hb : blk t[0] = true) :
    ∃ a', s.data.toList = a' ++ (t.extract 1 t.size).data.toList ++ b ∧ a'.all blk = true := by
  refine ⟨a ++ [t[0]], ?_, by rw [List.all_append, ha]; simp [hb]⟩
  rw [h, extract_toList]
  have e : t.data.toList = t[0] :: t.data.toList.drop 1 := by
    have h1 := bytes_get t 0 h0
    match hh : t.data.toList, h1 with
    | x :: r, h1 => simp at h1; simp [h1]
  have e2 : (t.data.toList.drop 1).take (t.size - 1) = t.data.toList.drop 1 := List.take_of_length_le (by simp)
  rw [e2]
  conv => lhs; rw [e]
  simp
theorem trim_step2 {s t : ByteArray} {a b : List UInt8} (h : s.data.toList = a ++ t.data.toList ++ b) (hb : b.all blk = true) (h0 : 0 < t.size) (hl : blk (t[t.size - 1]'(by omega)) = true) :
    ∃ b', s.data.toList = a ++ (t.extract 0 (t.size - 1)).data.toList ++ b' ∧ b'.all blk = true := by
  refine ⟨t[t.size - 1]'(by omega) :: b, ?_, by rw [List.all_cons, hl, hb]; rfl⟩
  rw [h, extract_toList]
  have e : t.data.toList = (t.data.toList.drop 0).take (t.size - 1 - 0) ++ [t[t.size - 1]'(by omega)] := by
    have h1 := take_snoc t (t.size - 1) (by omega)
    rw [Nat.sub_add_cancel h0, List.take_of_length_le (by simp)] at h1
    simpa using h1
  conv => lhs; rw [e]
  simp
theorem trim_end {s t : ByteArray} {a b : List UInt8} (h : s.data.toList = a ++ t.data.toList ++ b) (ha : a.all blk = true) (hb : b.all blk = true)
    (h1 : ∀ h0 : 0 < t.size, blk t[0] = false) (h2 : ∀ h0 : 0 < t.size, blk (t[t.size - 1]'(by omega)) = false) : t = ⟨(trimS s.data.toList).toArray⟩ := by
  apply bytes_eq
  rw [h, trim_of a t.data.toList b ha hb]
  · intro x hx
    have h0 : 0 < t.size := by
      rw [bytes_len]
      match t.data.toList, hx with
      | y :: r, _ => simp
    rw [head_at t h0] at hx
    rw [← Option.some.inj hx]
    exact h1 h0
  · intro x hx
    have h0 : 0 < t.size := by
      rw [bytes_len]
      match t.data.toList, hx with
      | y :: r, _ => simp
    rw [List.getLast?_eq_getElem?, ← bytes_len, bytes_get t (t.size - 1) (by omega)] at hx
    rw [← Option.some.inj hx]
    exact h2 h0

theorem extract_first (u : ByteArray) (n : Nat) (h : 0 < (u.extract 0 n).size) (h0 : 0 < u.size) : (u.extract 0 n)[0] = u[0] := by
  have h1 := bytes_get _ 0 h
  have h2 := bytes_get u 0 h0
  rw [extract_toList, List.getElem?_take] at h1
  split at h1
  · rw [List.drop_zero, h2] at h1
    exact (Option.some.inj h1).symm
  · cases h1

theorem trim_any (s : ByteArray) (w : World) (hl : s.size ≤ 9223372036854775807) :
    Calls Tryz.prog 77 #[.string s] w fun e w' => e = .returned (.string ⟨(trimS s.data.toList).toArray⟩) ∧ w = w' := by
  go_enter Tryz.func77, Tryz.ntmps77
  go_wp2
  go_loopg [0] s.size (fun g v wr => ∃ t : ByteArray, t.size ≤ s.size ∧ g = t.size ∧ v = .string t ∧ w = wr ∧ Hid (∃ a, s.data.toList = a ++ t.data.toList ++ [] ∧ a.all blk = true))
  case atStart => exact ⟨s, by omega, rfl, rfl, rfl, [], by simp, rfl⟩
  case round =>
    obtain ⟨t, ht, rfl, rfl, rfl, HA⟩ := hrel
    have HX := Lib.hid (extract_size' t 1 t.size (by omega))
    by_cases hc : ∃ h0 : 0 < t.size, (t[0].toNat : Int) = 32 ∨ (t[0].toNat : Int) = 9
    · obtain ⟨h0, hb⟩ := hc
      have HB := Lib.hid hb
      clear hb
      go_wp2_with (go_at_call 76; refine (blank_yes _ _ HB.out).mono ?_; rintro e w' ⟨rfl, rfl⟩)
      go_roundg ((t.extract 1 t.size).size)
      case measure => rw [HX.out]; omega
      case rel =>
        obtain ⟨a, h1, h2⟩ := HA.out
        exact ⟨_, by rw [HX.out]; omega, rfl, rfl, rfl, trim_step1 h1 h2 h0 (blk_true HB.out)⟩
    have hc' : ¬ 0 < t.size ∨ (∃ h0 : 0 < t.size, ¬ ((t[0].toNat : Int) = 32 ∨ (t[0].toNat : Int) = 9)) := by
      by_cases h0 : 0 < t.size
      · exact .inr ⟨h0, fun h => hc ⟨h0, h⟩⟩
      · exact .inl h0
    clear hc
    rcases hc' with h0 | ⟨h0, hb⟩
    case' inr =>
      have HB := Lib.hid hb
      have HF : Hid (∀ h0 : 0 < t.size, blk t[0] = false) := fun _ => blk_false hb
      clear hb
      go_wp2_with (go_at_call 76; refine (blank_no _ _ HB.out).mono ?_; rintro e w' ⟨rfl, rfl⟩)
      clear HB HX
    case' inl =>
      have HF : Hid (∀ h0 : 0 < t.size, blk t[0] = false) := fun h => (h0 h).elim
      go_wp2_with fail
      clear HX
    all_goals
      skip
      go_loopg [0] s.size (fun g v wr => ∃ u : ByteArray, u.size ≤ s.size ∧ u.size ≤ g ∧ v = .string u ∧ w = wr ∧ Hid (∃ a b, s.data.toList = a ++ u.data.toList ++ b ∧ a.all blk = true ∧ b.all blk = true ∧ (∀ h0 : 0 < u.size, blk u[0] = false)))
      case atStart =>
        refine ⟨t, by omega, by omega, rfl, rfl, ?_⟩
        obtain ⟨a, h1, h2⟩ := HA.out
        exact ⟨a, [], h1, h2, rfl, HF.out⟩
      case round =>
        clear HA HF ht
        obtain ⟨u, hu, hg, rfl, rfl, HA⟩ := hrel
        have HX := Lib.hid (extract_size' u 0 (u.size - 1) (by omega))
        by_cases h0 : 0 < u.size
        · by_cases hb : ((u[u.size - 1]'(by omega)).toNat : Int) = 32 ∨ ((u[u.size - 1]'(by omega)).toNat : Int) = 9
          · have HB := Lib.hid hb
            clear hb
            go_wp2_with (go_at_call 76; refine (blank_yes _ _ HB.out).mono ?_; rintro e w' ⟨rfl, rfl⟩)
            go_roundg (gk - 1)
            case measure => omega
            case rel =>
              obtain ⟨a, b, h1, h2, h3, h4⟩ := HA.out
              obtain ⟨b', h5, h6⟩ := trim_step2 h1 h3 h0 (blk_true HB.out)
              refine ⟨_, by rw [HX.out]; omega, by rw [HX.out]; omega, rfl, rfl, a, b', h5, h2, h6, ?_⟩
              intro hx
              rw [extract_first u (u.size - 1) hx h0]
              exact h4 h0
          · have HB := Lib.hid hb
            clear hb
            go_wp2_with (go_at_call 76; refine (blank_no _ _ HB.out).mono ?_; rintro e w' ⟨rfl, rfl⟩)
            go_ret
            obtain ⟨a, b, h1, h2, h3, h4⟩ := HA.out
            exact ⟨ret_str (trim_end h1 h2 h3 h4 (fun _ => blk_false HB.out)), rfl⟩
        · go_wp2_with fail
          go_ret
          obtain ⟨a, b, h1, h2, h3, h4⟩ := HA.out
          exact ⟨ret_str (trim_end h1 h2 h3 h4 (fun h => (h0 h).elim)), rfl⟩

theorem cut_three (s : ByteArray) (k t : Nat) (h : k ≤ t) : s.data.toList = s.data.toList.take k ++ (s.extract k t).data.toList ++ s.data.toList.drop t := by
  rw [extract_toList]
  have e1 : s.data.toList.drop t = (s.data.toList.drop k).drop (t - k) := by rw [List.drop_drop]; congr 1; omega
  rw [e1, List.append_assoc, List.take_append_drop, List.take_append_drop]

theorem refTrim_end {s : ByteArray} {k t : Nat} (hkt : k ≤ t) (ht : t ≤ s.size) (ha : (s.data.toList.take k).all blk = true) (hb : (s.data.toList.drop t).all blk = true)
    (h1 : ∀ h0 : k < s.size, k < t → blk s[k] = false) (h2 : ∀ h0 : k < t, blk (s[t - 1]'(by omega)) = false) : s.extract k t = ⟨(trimS s.data.toList).toArray⟩ := by
  have hz := extract_size' s k t ht
  refine trim_end (cut_three s k t hkt) ha hb ?_ ?_
  · intro h0
    have h0' : k < s.size := by omega
    have := extract_at s k t 0 h0 h0'
    rw [this]
    exact h1 h0' (by omega)
  · intro h0
    have h0' : k < s.size := by omega
    have := extract_at s k t ((s.extract k t).size - 1) (by omega) (by omega)
    rw [this]
    have e : k + ((s.extract k t).size - 1) = t - 1 := by omega
    have := h2 (by omega)
    simpa only [e] using this

theorem all_take_step {s : ByteArray} {k : Nat} (h : k < s.size) (ha : (s.data.toList.take k).all blk = true) (hb : blk s[k] = true) : (s.data.toList.take (k + 1)).all blk = true := by
  rw [take_snoc s k h, List.all_append, ha]
  simp [hb]
theorem all_drop_step {s : ByteArray} {t : Nat} (h0 : 0 < t) (h : t ≤ s.size) (ha : (s.data.toList.drop t).all blk = true) (hb : blk (s[t - 1]'(by omega)) = true) : (s.data.toList.drop (t - 1)).all blk = true := by
  have hl : t - 1 < s.data.toList.length := by rw [← bytes_len]; omega
  rw [List.drop_eq_getElem_cons hl, List.all_cons, Nat.sub_add_cancel h0, ha]
  have : s.data.toList[t - 1] = s[t - 1]'(by omega) := rfl
  rw [this, hb]
  rfl

theorem not_blank_bools {c : Int} (h : ¬ (c = 32 ∨ c = 9)) : (c == 32) = false ∧ (c == 9) = false := by
  constructor
  · simp; omega
  · simp; omega

end Go.Proofs.YtbphnlaoiikebaaGreatDoor

/- Contracts of Same, Fold and the document's Fold. -/
namespace Go.Proofs.YtbphnlaoiikebaaGreatDoor
open Go Go.RowKit

theorem lowI_nat (b : UInt8) : lowI (b.toNat : Int) = ((lowB b).toNat : Int) := by
  unfold lowI
  rw [lowB_toNat]
  by_cases h : 65 ≤ b.toNat ∧ b.toNat ≤ 90
  · rw [if_pos (by omega), if_pos h]; omega
  · rw [if_neg (by omega), if_neg h]
theorem lowerB_any (b : UInt8) (w : World) :
    Calls Tryz.prog 78 #[.int .u8 b.toNat] w fun e w' => e = .returned (.int .u8 (lowB b).toNat) ∧ w = w' := by
  have h := lower_any b.toNat w (by omega) (by have := b.toNat_lt; omega)
  rw [lowI_nat] at h
  exact h
theorem fold_eq_of {a b : ByteArray} (hn : a.size = b.size) (h : ∀ j, (h1 : j < a.size) → (h2 : j < b.size) → lowB a[j] = lowB b[j]) : foldS a.data.toList = foldS b.data.toList := by
  unfold foldS
  apply List.ext_getElem
  · simpa using hn
  · intro i h1 h2
    simp only [List.getElem_map]
    exact h i (by simpa using h1) (by simpa using h2)
theorem fold_ne_of {a b : ByteArray} {j : Nat} (h1 : j < a.size) (h2 : j < b.size) (h : ¬ lowB a[j] = lowB b[j]) : ¬ foldS a.data.toList = foldS b.data.toList := by
  intro e
  apply h
  have := congrArg (fun l => l[j]?) e
  simp only [foldS, List.getElem?_map, bytes_get a j h1, bytes_get b j h2] at this
  exact Option.some.inj this
theorem fold_ne_len {a b : ByteArray} (h : ¬ a.size = b.size) : ¬ foldS a.data.toList = foldS b.data.toList := by
  intro e
  apply h
  have := congrArg List.length e
  simpa [foldS] using this

theorem same_any (a b : ByteArray) (w : World) (hl : a.size ≤ 9223372036854775807) :
    Calls Tryz.prog 44 #[.string a, .string b] w fun e w' => e = .returned (.bool (decide (foldS a.data.toList = foldS b.data.toList))) ∧ ∃ n, w' = w.drewN n := by
  by_cases hn : a.size = b.size
  · have HN := Lib.hid hn
    have hn1 : b.size ≤ a.size := by omega
    have hn2 : a.size ≤ b.size := by omega
    have ht : ((a.size : Int) != (b.size : Int)) = false := by simp; omega
    clear hn
    go_enter Tryz.func44, Tryz.ntmps44
    go_wp2
    clear ht
    go_loopg [5] a.size (fun g v wr => ∃ k : Nat, k ≤ a.size ∧ g = a.size - k ∧ v = .int .i64 k ∧ Hid (∃ n, wr = w.drewN n) ∧ Hid (∀ j, (h1 : j < a.size) → (h2 : j < b.size) → j < k → lowB a[j] = lowB b[j]))
    case atStart => exact ⟨0, by omega, rfl, rfl, ⟨0, rfl⟩, fun j _ _ h => by omega⟩
    case round =>
      obtain ⟨k, hk, rfl, rfl, HW, HA⟩ := hrel
      by_cases hlt : k < a.size
      · have hlt2 : k < b.size := by omega
        by_cases he : lowB a[k] = lowB b[k]
        case' pos => have ht : (((lowB a[k]).toNat : Int) != ((lowB b[k]).toNat : Int)) = false := by rw [he]; simp
        case' neg => have ht : (((lowB a[k]).toNat : Int) != ((lowB b[k]).toNat : Int)) = true := by { have : ¬ (lowB a[k]).toNat = (lowB b[k]).toNat := fun h => he (UInt8.toNat_inj.1 h); simp; omega }
        all_goals
          have HE := Lib.hid he
          clear he
          go_wp2_with fail
          go_quiet ((go_at_call 78; exact quiet_same' (lowerB_any _ _)))
          go_wp2
        · go_ret
          refine ⟨ret_bool (decide_eq_false (fold_ne_of hlt hlt2 HE.out)).symm, ?_⟩
          obtain ⟨n, rfl⟩ := HW.out
          exact ⟨n + nq, World.drewN_drewN _ _ _⟩
        · go_roundg (a.size - (k + 1))
          case measure => omega
          case rel =>
            refine ⟨k + 1, by omega, rfl, by go_num, ?_, ?_⟩
            · obtain ⟨n, rfl⟩ := HW.out
              exact ⟨n + nq, World.drewN_drewN _ _ _⟩
            · intro j h1 h2 h3
              by_cases e : j = k
              · subst e; exact HE.out
              · exact HA.out j h1 h2 (by omega)
      · go_wp2
        go_ret
        exact ⟨ret_bool (decide_eq_true (fold_eq_of HN.out fun j h1 h2 => HA.out j h1 h2 (by omega))).symm, HW.out⟩
  · have ht : ((a.size : Int) != (b.size : Int)) = true := by simp; omega
    have HN := Lib.hid hn
    clear hn
    go_enter Tryz.func44, Tryz.ntmps44
    go_wp2
    go_ret
    exact ⟨ret_bool (decide_eq_false (fold_ne_len HN.out)).symm, 0, rfl⟩
theorem foldS_set (l : List UInt8) (k : Nat) (h : k < l.length) : (foldS (l.take k) ++ l.drop k).set k (lowB l[k]) = foldS (l.take (k + 1)) ++ l.drop (k + 1) := by
  unfold foldS
  rw [List.set_append_right _ _ (by simp; omega), List.take_succ_eq_append_getElem h, List.drop_eq_getElem_cons h]
  have e : k - (l.take k |>.map lowB).length = 0 := by simp; omega
  rw [e, List.set_cons_zero, List.map_append, List.append_assoc]
  rfl

theorem fold_any (s : ByteArray) (w : World) (hl : s.size ≤ 9223372036854775807) :
    Calls Tryz.prog 98 #[.string s] w fun e w' => e = .returned (.string ⟨(foldS s.data.toList).toArray⟩) ∧ Below w.heap.size w w' := by
  have hconv := fun w => run_bytes_of_string (P := Tryz.prog) w 9 39 5 s Tryz.underlying9 Tryz.underlying39 Tryz.underlying5
  have HR := Lib.hid (fun cap o => rowAt_bytes w.drew s cap 5 o)
  go_enter Tryz.func98, Tryz.ntmps98
  go_wp2
  go_loopg [10] s.size (fun g v wr => ∃ k : Nat, k ≤ s.size ∧ g = s.size - k ∧ v = .int .i64 k ∧ Hid (rowAt wr w.heap.size 5 ((foldS (s.data.toList.take k) ++ s.data.toList.drop k).map byteV)) ∧ Hid (Below w.heap.size w wr))
  case atStart => exact ⟨0, by omega, rfl, rfl, HR.out _ _, ((Below.refl _ _).alloc (Nat.le_refl _) _).drew⟩
  case round =>
    obtain ⟨k, hk, rfl, rfl, HA, HB⟩ := hrel
    clear HR
    by_cases hlt : k < s.size
    · have hk' : k < ((foldS (s.data.toList.take k) ++ s.data.toList.drop k).map byteV).length := by simp [foldS]; omega
      have hcell : wr.cell? ⟨w.heap.size, k, none⟩ = some (.int .u8 (s[k].toNat : Int)) := by
        rw [HA.out.cell k hk']
        simp [foldS, drop_cons s k hlt, byteV, Nat.min_eq_left hk]
      have hfr : wr.frozen? ⟨w.heap.size, k, none⟩ = false := HA.out.frozen k hk'
      clear hk'
      go_wp2_with (go_at_call 78; refine (lowerB_any _ _).mono ?_; rintro e w' ⟨rfl, rfl⟩)
      go_roundg (s.size - (k + 1))
      case measure => omega
      case rel =>
        refine ⟨k + 1, by omega, rfl, by go_num, ?_, HB.out.setCell (Nat.le_refl _) _⟩
        have := HA.out.set k (byteV (lowB s[k]))
        rw [← List.map_set] at this
        have e := foldS_set s.data.toList k (by simpa using hlt)
        rw [← e]
        exact this
    · have hA := HA.out
      rw [take_all s k hlt, List.drop_eq_nil_of_le (by simp; omega), List.append_nil] at hA
      have hst := fun cap => run_string_of_row (P := Tryz.prog) (cap := cap) (n := s.size) Tryz.underlying39 Tryz.underlying5 Tryz.underlying9 hA (by simp [foldS])
      have HB' := HB
      clear hA
      go_wp2
      go_ret
      exact ⟨rfl, HB'.out⟩
theorem Tryz.infoU8 : (Tryz.prog.info? 5).map (fun i => (i.zero, i.size, i.bytes)) = some (some (.int .u8 0), 1, 1) := by kernel_rfl

end Go.Proofs.YtbphnlaoiikebaaGreatDoor

/- Contracts of Split and the document's Split. -/
namespace Go.Proofs.YtbphnlaoiikebaaGreatDoor
open Go Go.RowKit

def strV (l : List UInt8) : Value := .string ⟨l.toArray⟩
theorem strV_extract (s : ByteArray) (a b : Nat) : strV ((s.data.toList.drop a).take (b - a)) = .string (s.extract a b) := by
  unfold strV
  congr 1
  apply bytes_eq
  rw [extract_toList]
theorem strV_bytes (s : ByteArray) : strV s.data.toList = .string s := by
  unfold strV
  congr 1

theorem Tryz.infoStr : (Tryz.prog.info? 9).map (fun i => (i.zero, i.size, i.bytes)) = some (some (.string ⟨#[]⟩), 1, 16) := by kernel_rfl

theorem splitAux_at {c : UInt8} {s : ByteArray} {k f : Nat} (hk : k < s.size) (h : s[k] = c) :
    splitAux c (s.data.toList.drop k) ((s.data.toList.drop f).take (k - f)) = ((s.data.toList.drop f).take (k - f)) :: splitAux c (s.data.toList.drop (k + 1)) ((s.data.toList.drop (k + 1)).take (k + 1 - (k + 1))) := by
  rw [drop_cons s k hk, splitAux, if_pos h]
  simp
theorem take_drop_snoc {s : ByteArray} {k f : Nat} (hk : k < s.size) (hf : f ≤ k) : (s.data.toList.drop f).take (k + 1 - f) = (s.data.toList.drop f).take (k - f) ++ [s[k]] := by
  have h1 : k + 1 - f = (k - f) + 1 := by omega
  rw [h1, List.take_add_one, List.getElem?_drop]
  have h2 : f + (k - f) = k := by omega
  rw [h2, bytes_get s k hk]
  rfl
theorem splitAux_not {c : UInt8} {s : ByteArray} {k f : Nat} (hk : k < s.size) (hf : f ≤ k) (h : ¬ s[k] = c) :
    splitAux c (s.data.toList.drop k) ((s.data.toList.drop f).take (k - f)) = splitAux c (s.data.toList.drop (k + 1)) ((s.data.toList.drop f).take (k + 1 - f)) := by
  rw [drop_cons s k hk, splitAux, if_neg h, take_drop_snoc hk hf]

theorem add_one_byte {s t : ByteArray} {cur : List UInt8} {k : Nat} (hk : k < s.size) (h : t.data.toList = cur) : (t ++ s.extract k (k + 1)).data.toList = cur ++ [s[k]] := by
  rw [ByteArray.data_append, Array.toList_append, h, extract_toList, drop_cons s k hk]
  simp

end Go.Proofs.YtbphnlaoiikebaaGreatDoor

/- Contracts of Digits and the document's Digits. -/
namespace Go.Proofs.YtbphnlaoiikebaaGreatDoor
open Go Go.RowKit

theorem digit_piece {i : Nat} (h : i < 10) : ((⟨#[48, 49, 50, 51, 52, 53, 54, 55, 56, 57]⟩ : ByteArray).extract i (i + 1)).data.toList = [UInt8.ofNat (48 + i)] := by
  match i, h with
  | 0, _ => rfl
  | 1, _ => rfl
  | 2, _ => rfl
  | 3, _ => rfl
  | 4, _ => rfl
  | 5, _ => rfl
  | 6, _ => rfl
  | 7, _ => rfl
  | 8, _ => rfl
  | 9, _ => rfl
theorem up_small {n : Nat} (h : n < 10) : (⟨#[48, 49, 50, 51, 52, 53, 54, 55, 56, 57]⟩ : ByteArray).extract n (n + 1) = ⟨(Lib.decDigits n).toArray⟩ := by
  apply bytes_eq
  rw [digit_piece h, Lib.decDigits_one h]
theorem up_great {n : Nat} (h : ¬ n < 10) : (⟨(Lib.decDigits (n / 10)).toArray⟩ : ByteArray) ++ (⟨#[48, 49, 50, 51, 52, 53, 54, 55, 56, 57]⟩ : ByteArray).extract (n % 10) (n % 10 + 1) = ⟨(Lib.decDigits n).toArray⟩ := by
  apply bytes_eq
  rw [ByteArray.data_append, Array.toList_append, digit_piece (Nat.mod_lt _ (by decide))]
  conv => rhs; rw [Lib.decDigits, dif_neg h]

theorem up_any (g : Nat) : ∀ (n : Nat) (w : World), n ≤ g → n ≤ 18446744073709551615 →
    Calls Tryz.prog 87 #[.int .u64 n] w fun e w' => e = .returned (.string ⟨(Lib.decDigits n).toArray⟩) ∧ ∃ k, w' = w.drewN k := by
  induction g with
  | zero =>
    intro n w hg hn
    obtain rfl : n = 0 := by omega
    go_enter Tryz.func87, Tryz.ntmps87
    go_wp2
    go_ret
    exact ⟨ret_str (up_small (n := 0) (by omega)), 0, rfl⟩
  | succ g ih =>
    intro n w hg hn
    by_cases h : n < 10
    · go_enter Tryz.func87, Tryz.ntmps87
      go_wp2
      go_ret
      exact ⟨ret_str (up_small h), 0, rfl⟩
    · have hlen : (Lib.decDigits (n / 10)).length ≤ 20 := by rw [Lib.decDigits_length]; exact Lib.nDigits_le20 _ (by omega)
      have hx : ((⟨#[48, 49, 50, 51, 52, 53, 54, 55, 56, 57]⟩ : ByteArray).extract (n % 10) (n % 10 + 1)).size ≤ 10 := by rw [extract_len]; omega
      have HU := Lib.hid (up_great h)
      go_enter Tryz.func87, Tryz.ntmps87
      go_wp2_with fail
      go_quiet ((go_at_call 87; exact Calls.quiet_of (ih (n / 10) _ (by omega) (by omega))))
      go_wp2
      go_ret
      exact ⟨ret_str HU.out, _, rfl⟩

theorem below_drewN {B : Nat} {a w : World} (h : Below B a w) (n : Nat) : Below B a (w.drewN n) := h.trans ⟨rfl, rfl, rfl, Nat.le_refl _, fun _ _ => rfl⟩
theorem below_grow (w : World) (k : Nat) (os : Array Obj) : Below w.heap.size w (Go.Sort.grow (w.drewN k) os) := by
  refine ⟨rfl, rfl, rfl, ?_, ?_⟩
  · show w.heap.size ≤ (w.heap ++ os).size
    simp
  · intro i hi
    show (w.heap ++ os)[i]? = w.heap[i]?
    rw [Array.getElem?_append_left hi]

def tab (w : World) : Prop := Lib.TabIs Tryz.prog w "internal/strconv.uint64pow10" .u64 Lib.pow10Tab
theorem tab.below {w w' : World} (h : tab w) (hb : Below w.heap.size w w') : tab w' := (Lib.tabBelow_of_tabIs h) w' hb

theorem digits_any (n : Int) (h0 : -9223372036854775808 ≤ n) (h1 : n ≤ 9223372036854775807) (w : World) (ht : tab w) :
    Calls Tryz.prog 86 #[.int .i64 n] w fun e w' => e = .returned (.string ⟨(Lib.itoa n).toArray⟩) ∧ Below w.heap.size w w' := by
  have HC := Lib.hid (fun w ht => Tryz.strconv_Itoa n h0 h1 w ht)
  have HT := Lib.hid ht
  clear ht h0 h1
  go_enter Tryz.func86, Tryz.ntmps86
  go_wp2_with (go_at_call 114; refine (HC.out _ HT.out).mono ?_; rintro e w' ⟨rfl, k, os, rfl⟩)
  go_ret
  exact ⟨rfl, below_grow _ _ _⟩

theorem refDigits_any (n : Int) (h0 : -9223372036854775808 ≤ n) (h1 : n ≤ 9223372036854775807) (w : World) :
    Calls Tryz.prog 55 #[.int .i64 n] w fun e w' => e = .returned (.string ⟨(Lib.itoa n).toArray⟩) ∧ ∃ k, w' = w.drewN k := by
  by_cases h : n < 0
  · obtain ⟨u, hu⟩ : ∃ u : Nat, n = -(u : Int) := ⟨n.natAbs, by omega⟩
    have hu1 : 1 ≤ u := by omega
    have hu2 : u ≤ 9223372036854775808 := by omega
    have hlen : (Lib.decDigits u).length ≤ 20 := by rw [Lib.decDigits_length]; exact Lib.nDigits_le20 _ (by omega)
    subst hu
    go_enter Tryz.func55, Tryz.ntmps55
    go_wp2_with fail
    rw [show (-(-(u : Int) + 1) + 1) = (u : Int) from by omega]
    refine (up_any u u _ (by omega) (by omega)).mono ?_
    rintro e w' ⟨rfl, k, rfl⟩
    go_wp2
    go_ret
    exact ⟨ret_str (by rw [Lib.itoa_neg u hu1]; apply bytes_eq; simp), _, rfl⟩
  · obtain ⟨u, hu⟩ : ∃ u : Nat, n = (u : Int) := ⟨n.toNat, by omega⟩
    have hu2 : u ≤ 9223372036854775807 := by omega
    subst hu
    go_enter Tryz.func55, Tryz.ntmps55
    go_wp2_with (go_at_call 87; refine (up_any u u _ (by omega) (by omega)).mono ?_; rintro e w' ⟨rfl, k, rfl⟩)
    go_ret
    exact ⟨ret_str (by rw [Lib.itoa_nonneg]), _, rfl⟩
end Go.Proofs.YtbphnlaoiikebaaGreatDoor

/- Contracts of Token and Atom, and of the document's; the example that every statement asks first. -/
namespace Go.Proofs.YtbphnlaoiikebaaGreatDoor
open Go Go.RowKit

def mimeB : ByteArray := ⟨#[40, 41, 60, 62, 64, 44, 59, 58, 92, 34, 47, 91, 93, 63, 61]⟩
def imapB : ByteArray := ⟨#[40, 41, 123, 37, 42, 34, 92, 93]⟩
def tokenI (c : Int) : Bool := decide (33 ≤ c ∧ c ≤ 126) && !(hasI mimeB c)
def atomI (c : Int) : Bool := decide (33 ≤ c ∧ c ≤ 126) && !(hasI imapB c)
theorem mime_low : ∀ k, (h : k < mimeB.size) → mimeB[k].toNat < 128 := by decide
theorem imap_low : ∀ k, (h : k < imapB.size) → imapB[k].toNat < 128 := by decide

theorem seen_yes (c : Int) (w : World) (h0 : 0 ≤ c) (h1 : c ≤ 255) (h : 33 ≤ c ∧ c ≤ 126) :
    Calls Tryz.prog 190 #[.int .u8 c] w fun e w' => e = .returned (.bool true) ∧ w = w' :=
  (seen_any c w h0 h1).mono fun _ _ ⟨he, hw⟩ => ⟨by rw [he, decide_eq_true h], hw⟩
theorem seen_no (c : Int) (w : World) (h0 : 0 ≤ c) (h1 : c ≤ 255) (h : ¬ (33 ≤ c ∧ c ≤ 126)) :
    Calls Tryz.prog 190 #[.int .u8 c] w fun e w' => e = .returned (.bool false) ∧ w = w' :=
  (seen_any c w h0 h1).mono fun _ _ ⟨he, hw⟩ => ⟨by rw [he, decide_eq_false h], hw⟩

theorem token_any (c : Int) (w : World) (h0 : 0 ≤ c) (h1 : c ≤ 255) :
    Calls Tryz.prog 169 #[.int .u8 c] w fun e w' => e = .returned (.bool (tokenI c)) ∧ Below w.heap.size w w' := by
  have HM := Lib.hid (fun w => among_any c mimeB w h0 h1 mime_low (by decide))
  by_cases h : 33 ≤ c ∧ c ≤ 126
  · go_enter Tryz.func169, Tryz.ntmps169
    go_wp2_with (first | (go_at_call 190; refine (seen_yes _ _ h0 h1 h).mono ?_; rintro e w' ⟨rfl, rfl⟩) | (go_at_call 191; refine (HM.out _).mono ?_; rintro e w' ⟨rfl, k, rfl⟩))
    go_ret
    exact ⟨ret_bool (by unfold tokenI; rw [decide_eq_true h]; rfl), (Below.refl _ _).alloc (Nat.le_refl _) _⟩
  · go_enter Tryz.func169, Tryz.ntmps169
    go_wp2_with (go_at_call 190; refine (seen_no _ _ h0 h1 h).mono ?_; rintro e w' ⟨rfl, rfl⟩)
    go_ret
    exact ⟨ret_bool (by unfold tokenI; rw [decide_eq_false h]; rfl), Below.refl _ _⟩
theorem number_none {s : ByteArray} (w : World) (hl : s.size ≤ 9223372036854775807) (h : numSpec s.data.toList = none) :
    Calls Tryz.prog 89 #[.string s] w fun e w' => e = .returned (.tuple #[.int .i64 0, .bool false]) ∧ Below w.heap.size w w' :=
  (number_any s w hl).mono fun _ _ ⟨he, hw⟩ => ⟨by rw [he, h]; rfl, hw⟩
theorem number_some {s : ByteArray} (n : Nat) (w : World) (hl : s.size ≤ 9223372036854775807) (h : numSpec s.data.toList = some n) :
    Calls Tryz.prog 89 #[.string s] w fun e w' => e = .returned (.tuple #[.int .i64 n, .bool true]) ∧ Below w.heap.size w w' :=
  (number_any s w hl).mono fun _ _ ⟨he, hw⟩ => ⟨by rw [he, h]; rfl, hw⟩

end Go.Proofs.YtbphnlaoiikebaaGreatDoor
