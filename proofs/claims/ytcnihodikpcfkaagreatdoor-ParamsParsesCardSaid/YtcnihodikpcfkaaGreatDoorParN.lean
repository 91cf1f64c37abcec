/- Contracts of package params: texts that are cut. -/
import Derived.Test.YtcnihodikpcfkaaGreatDoorParM
import Derived.Test.YtcnihodikpcfkaaGreatDoorKit2
import Derived.Test.YtcnihodikpcfkaaGreatDoorParC
import Derived.Test.YtcnihodikpcfkaaGreatDoorShelf
import Derived.Lib.IndexBytes
import Derived.Shelf.Strings.SplitCore
namespace Go.Proofs.YtcnihodikpcfkaaGreatDoor
open Go Go.RowKit

def posB (c : UInt8) (l : List UInt8) : Nat := (l.takeWhile (fun x => x != c)).length
theorem posB_le (c : UInt8) (l : List UInt8) : posB c l ≤ l.length := (List.takeWhile_sublist _).length_le
theorem posB_cons (c x : UInt8) (l : List UInt8) : posB c (x :: l) = if x = c then 0 else posB c l + 1 := by
  unfold posB
  rw [List.takeWhile_cons]
  by_cases h : x = c
  · rw [if_pos h, if_neg (by simp [h])]
    rfl
  · rw [if_neg h, if_pos (by simpa using h)]
    rfl
theorem indexByte_pos (c : UInt8) : ∀ l : List UInt8, Lib.indexByte l c = if posB c l < l.length then (posB c l : Int) else -1
  | [] => rfl
  | x :: l => by
    unfold Lib.indexByte
    rw [indexByte_pos c l, posB_cons]
    by_cases h : x = c
    · rw [if_pos (by simpa using h), if_pos h]
      simp
    · rw [if_neg (by simpa using h), if_neg h]
      by_cases h2 : posB c l < l.length
      · rw [if_pos h2, if_neg (by simp), if_pos (by simp; omega)]
        simp
      · rw [if_neg h2, if_pos (by rfl), if_neg (by simp; omega)]
theorem take_pos (c : UInt8) (l : List UInt8) : l.take (posB c l) = l.takeWhile (fun x => x != c) := by
  have h : l.takeWhile (fun x => x != c) ++ l.dropWhile (fun x => x != c) = l := List.takeWhile_append_dropWhile
  have h2 := List.take_left (l₁ := l.takeWhile (fun x => x != c)) (l₂ := l.dropWhile (fun x => x != c))
  rw [h] at h2
  exact h2
theorem drop_pos (c : UInt8) (l : List UInt8) : l.drop (posB c l) = l.dropWhile (fun x => x != c) := by
  have h : l.takeWhile (fun x => x != c) ++ l.dropWhile (fun x => x != c) = l := List.takeWhile_append_dropWhile
  have h2 := List.drop_left (l₁ := l.takeWhile (fun x => x != c)) (l₂ := l.dropWhile (fun x => x != c))
  rw [h] at h2
  exact h2
theorem drop_pos_cons (c : UInt8) (l : List UInt8) (h : posB c l < l.length) : l.dropWhile (fun x => x != c) = c :: l.drop (posB c l + 1) := by
  have h1 := drop_pos c l
  have h2 := List.drop_eq_getElem_cons h
  have h3 : ∀ l : List UInt8, (h : posB c l < l.length) → l[posB c l] = c := by
    intro l
    induction l with
    | nil => intro h; simp [posB] at h
    | cons x l ih =>
      intro h
      by_cases e : x = c
      · have : posB c (x :: l) = 0 := by rw [posB_cons, if_pos e]
        simp only [this, List.getElem_cons_zero]
        exact e
      · have e2 : posB c (x :: l) = posB c l + 1 := by rw [posB_cons, if_neg e]
        simp only [e2, List.getElem_cons_succ]
        exact ih (by rw [e2] at h; simpa using h)
  rw [h3 l h] at h2
  rw [← h1, h2]
theorem drop_pos_nil (c : UInt8) (l : List UInt8) (h : ¬ posB c l < l.length) : l.dropWhile (fun x => x != c) = [] := by
  rw [← drop_pos]
  exact List.drop_eq_nil_of_le (by omega)

theorem indexC_any (s : ByteArray) (c : UInt8) (w : World) :
    Calls Tryz.prog 66 #[.string s, .string ⟨#[c]⟩] w fun e w' => e = .returned (.int .i64 (if posB c s.data.toList < s.size then (posB c s.data.toList : Int) else -1)) ∧ w = w' := by
  refine (Tryz.stringslite_Index_one s c w).mono ?_
  rintro e w' ⟨rfl, rfl⟩
  refine ⟨?_, rfl⟩
  rw [indexByte_pos, len_toList]
set_option maxHeartbeats 1000000 in
theorem cutIn_any (s : ByteArray) (c : UInt8) (w : World) (hl : s.size ≤ 1000000000) :
    Calls Tryz.prog 49 #[.string s, .string ⟨#[c]⟩] w fun e w' => ∃ a b, e = .returned (.tuple #[.string (s.extract 0 (posB c s.data.toList)), .string a, .bool b]) ∧ Below w.heap.size w w' := by
  have HI := Lib.hid (fun W => indexC_any s c W)
  obtain ⟨k, hk⟩ : ∃ k, k = posB c s.data.toList := ⟨_, rfl⟩
  have hks : k ≤ s.size := by rw [hk]; have := posB_le c s.data.toList; rwa [len_toList] at this
  rw [← hk] at HI ⊢
  clear hk
  by_cases h : k < s.size
  · rw [if_pos h] at HI
    go_enter Tryz.func49, Tryz.ntmps49
    go_wp2_with fail
    with_reducible refine (HI.out _).mono ?_
    rintro e w1 ⟨rfl, rfl⟩
    have e1 : IntKind.i64.wrap ((k : Int) + 1) = (k : Int) + 1 := IntWalk.i64_in _ (by omega)
    have e2 : ((k : Int) + 1).toNat = k + 1 := by omega
    go_wp2_with fail
    go_quiet (fail)
    go_wp2
    exact bodyPost_ret (v := .tuple #[.string (s.extract 0 k), .string (s.extract (k + 1) s.size), .bool true]) (by simp [results, Tryz.results49, go_sem]) rfl ⟨_, _, rfl, below_drewN' _⟩
  · rw [if_neg h] at HI
    obtain rfl : k = s.size := by omega
    have HE : Hid (s.extract 0 s.size = s) := bytes_eq (by rw [extract_toList, List.drop_zero, Nat.sub_zero]; exact List.take_of_length_le (by simp))
    go_enter Tryz.func49, Tryz.ntmps49
    go_wp2_with fail
    with_reducible refine (HI.out _).mono ?_
    rintro e w1 ⟨rfl, rfl⟩
    go_wp2
    exact bodyPost_ret (v := .tuple #[.string s, .string ⟨#[]⟩, .bool false]) (by simp [results, Tryz.results49, go_sem]) rfl ⟨_, _, by rw [HE.out], Below.refl _ _⟩
set_option maxHeartbeats 1000000 in
theorem cut_any (s : ByteArray) (w : World) (hl : s.size ≤ 1000000000) :
    Calls Tryz.prog 32 #[.string s, .string ⟨#[42]⟩] w fun e w' => ∃ a b, e = .returned (.tuple #[.string ⟨(baseL s.data.toList).toArray⟩, .string a, .bool b]) ∧ Below w.heap.size w w' := by
  have HI := Lib.hid (fun W => cutIn_any s 42 W hl)
  have HE : Hid (s.extract 0 (posB 42 s.data.toList) = ⟨(baseL s.data.toList).toArray⟩) := bytes_eq (by
    rw [extract_toList, List.drop_zero, Nat.sub_zero, take_pos]
    rfl)
  rw [HE.out] at HI
  go_enter Tryz.func32, Tryz.ntmps32
  go_wp2_with fail
  with_reducible refine (HI.out _).mono ?_
  rintro e w1 ⟨a, b, rfl, hb⟩
  have HB := Lib.hid hb; clear hb
  go_wp2_with fail
  exact bodyPost_ret (v := .tuple #[.string ⟨(baseL s.data.toList).toArray⟩, .string a, .bool b]) (by simp [results, Tryz.results32, go_sem]) rfl ⟨_, _, rfl, HB.out⟩

theorem idx_any (s : ByteArray) (c : UInt8) : Lib.indexB s ⟨#[c]⟩ = if posB c s.data.toList < s.size then (posB c s.data.toList : Int) else -1 := by
  have h := indexByte_pos c s.data.toList
  rw [← Lib.index_one, len_toList] at h
  exact h
theorem Tryz.infoStr9 : (Tryz.prog.info? 9).map (fun i => (i.zero, i.size, i.bytes)) = some (some (.string ByteArray.empty), 1, 16) := by kernel_rfl
theorem genSplit_any (s : ByteArray) (c : UInt8) (n N : Nat) (z m : Int) (hz : ((0 : Nat) : Int) = z) (hm : (n : Int) = m) (w : World) (hs : s.size ≤ 1000000000) (hn : 1 ≤ n) (hn2 : n ≤ 100) (hN : N = min n (s.size + 1)) :
    Calls Tryz.prog 86 #[.string s, .string ⟨#[c]⟩, .int .i64 z, .int .i64 m] w fun e w' =>
      e = .returned (.slice (some ⟨w.heap.size, 0, none⟩) (Lib.splitB ⟨#[c]⟩ 0 (N - 1) s).length N) ∧ w' = w.alloc (.cells (Lib.cellsOf (Lib.splitB ⟨#[c]⟩ 0 (N - 1) s) N) 9) := by
  subst hz hm
  refine Any.strings_genSplit_core Tryz.lays221 Tryz.infoStr9 s ⟨#[c]⟩ 0 (n : Int) N w (by omega) (Nat.le_refl 1) (Nat.zero_le _) (fun x cs _ => ?_) ?_ (by omega) (by omega) ?_
  · refine (Tryz.strings_Index_one x c (w.alloc (.cells cs 9))).mono ?_
    rintro e w' ⟨rfl, rfl⟩
    refine ⟨?_, rfl⟩
    show Ending.returned (.int .i64 (Lib.indexByte x.data.toList c)) = .returned (.int .i64 (Lib.index x.data.toList [c]))
    rw [Lib.index_one]
  · refine (Tryz.strings_Count_one s c w).mono ?_
    rintro e w' ⟨rfl, rfl⟩
    refine ⟨?_, rfl⟩
    show Ending.returned (.int .i64 ((Lib.countByte s.data.toList c : Nat) : Int)) = .returned (.int .i64 ((Lib.count s.data.toList [c] : Nat) : Int))
    rw [Lib.count_one]
    rfl
  · rw [if_neg (by omega)]
    omega

theorem bare_parts (s : ByteArray) (N : Nat) (hN : N = min 3 (s.size + 1)) :
    ((Lib.splitB ⟨#[39]⟩ 0 (N - 1) s).length < 3 ∧ bareL s.data.toList = s.data.toList) ∨
    (∃ a b c, Lib.splitB ⟨#[39]⟩ 0 (N - 1) s = [a, b, c] ∧ c.data.toList = bareL s.data.toList) := by
  have hi := idx_any s 39
  by_cases h1 : posB 39 s.data.toList < s.size
  · rw [if_pos h1] at hi
    have hl1 : posB 39 s.data.toList < s.data.toList.length := by rw [len_toList]; exact h1
    have hd1 := drop_pos_cons 39 s.data.toList hl1
    obtain ⟨i, hie⟩ : ∃ i, i = posB 39 s.data.toList := ⟨_, rfl⟩
    rw [← hie] at hi hd1 h1 hl1
    obtain ⟨M, hM⟩ : ∃ M, N - 1 = M + 1 := ⟨N - 2, by omega⟩
    have hsplit := Lib.splitB_hit ⟨#[39]⟩ 0 M s i hi
    rw [hM]
    obtain ⟨t, ht⟩ : ∃ t, t = s.extract (i + 1) s.size := ⟨_, rfl⟩
    have ht2 : t.data.toList = s.data.toList.drop (i + 1) := by
      rw [ht, extract_toList]
      exact List.take_of_length_le (by simp)
    have hts : t.size = s.size - (i + 1) := by
      have := congrArg List.length ht2
      rw [List.length_drop, len_toList, len_toList] at this
      exact this
    have hsplit2 : Lib.splitB ⟨#[39]⟩ 0 (M + 1) s = s.extract 0 (i + 0) :: Lib.splitB ⟨#[39]⟩ 0 M t := by rw [ht]; exact hsplit
    have hj := idx_any t 39
    have hb : bareL s.data.toList = match (t.data.toList).dropWhile (fun c => c != 39) with | _ :: r2 => r2 | [] => s.data.toList := by
      unfold bareL
      rw [hd1, ht2]
      rfl
    by_cases h2 : posB 39 t.data.toList < t.size
    · rw [if_pos h2] at hj
      have hl2 : posB 39 t.data.toList < t.data.toList.length := by rw [len_toList]; exact h2
      have hd2 := drop_pos_cons 39 t.data.toList hl2
      obtain ⟨K, hK⟩ : ∃ K, M = K + 1 := ⟨M - 1, by omega⟩
      have hK0 : K = 0 := by omega
      subst hK0 hK
      have hsplit3 := Lib.splitB_hit ⟨#[39]⟩ 0 0 t _ hj
      refine .inr ⟨_, _, _, by rw [hsplit2, hsplit3]; rfl, ?_⟩
      rw [hb, hd2, extract_toList]
      simp only
      exact List.take_of_length_le (by simp)
    · rw [if_neg h2] at hj
      have hsplit3 := Lib.splitB_miss ⟨#[39]⟩ 0 M t hj
      refine .inl ⟨by rw [hsplit2, hsplit3]; simp, ?_⟩
      rw [hb, drop_pos_nil 39 _ (by rw [len_toList]; exact h2)]
  · rw [if_neg h1] at hi
    refine .inl ⟨by rw [Lib.splitB_miss _ _ _ _ hi]; simp, ?_⟩
    unfold bareL
    rw [drop_pos_nil 39 _ (by rw [len_toList]; exact h1)]

set_option maxRecDepth 100000 in
theorem splitN_any (s : ByteArray) (w : World) (hs : s.size ≤ 1000000000) :
    Calls Tryz.prog 69 #[.string s, .string ⟨#[39]⟩, .int .i64 3] w fun e w' => ∃ ps : List ByteArray, ∃ N : Nat, e = .returned (.slice (some ⟨w.heap.size, 0, none⟩) ps.length N) ∧ w' = w.alloc (.cells (Lib.cellsOf ps N) 9) ∧
      ((ps.length < 3 ∧ bareL s.data.toList = s.data.toList) ∨ (∃ a b c, ps = [a, b, c] ∧ c.data.toList = bareL s.data.toList)) := by
  have HG := Lib.hid (fun W => genSplit_any s 39 3 (min 3 (s.size + 1)) 0 3 rfl rfl W hs (by decide) (by decide) rfl)
  have HB := Lib.hid (bare_parts s (min 3 (s.size + 1)) rfl)
  go_enter Tryz.func69, Tryz.ntmps69
  go_wp2_with fail
  with_reducible refine (HG.out _).mono ?_
  rintro e w1 ⟨rfl, hw⟩
  have HW := Lib.hid hw
  clear hw
  go_wp2_with fail
  go_ret
  exact ⟨_, _, rfl, HW.out, HB.out⟩

set_option maxRecDepth 100000 in
theorem behindMarks_any (s : ByteArray) (w : World) (hs : s.size ≤ 1000000000) :
    Calls Tryz.prog 52 #[.string s] w fun e w' => e = .returned (.string ⟨(bareL s.data.toList).toArray⟩) ∧ Below w.heap.size w w' := by
  have HS := Lib.hid (fun W => splitN_any s W hs)
  go_enter Tryz.func52, Tryz.ntmps52
  go_wp2_with fail
  with_reducible refine (HS.out _).mono ?_
  rintro e w1 ⟨ps, N, rfl, hw, hps⟩
  have HB : Hid (Below w.heap.size w w1) := by rw [hw]; exact (Below.refl _ _).alloc (Nat.le_refl _) _
  have HW := Lib.hid hw
  clear hw
  rcases hps with ⟨h1, h2⟩ | ⟨a, b, c, rfl, hc⟩
  · have h3 : ((ps.length : Nat) : Int) < 3 := by omega
    have HE : Hid (s = ⟨(bareL s.data.toList).toArray⟩) := bytes_eq (by rw [h2])
    clear h1 h2
    go_wp2_with fail
    go_ret
    exact ⟨ret_str HE.out, HB.out⟩
  · have HE : Hid (c = ⟨(bareL s.data.toList).toArray⟩) := bytes_eq (by rw [hc])
    have c2 : w1.cell? ⟨w.heap.size, 2, none⟩ = some (.string c) := by
      rw [HW.out]
      simp only [World.cell?, heap_alloc_new]
      simp [Lib.cellsOf]
    clear hc
    go_wp2_with fail
    go_ret
    exact ⟨ret_str HE.out, HB.out⟩
end Go.Proofs.YtcnihodikpcfkaaGreatDoor
