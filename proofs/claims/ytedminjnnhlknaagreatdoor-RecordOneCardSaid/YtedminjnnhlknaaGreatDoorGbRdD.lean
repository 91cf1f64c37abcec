/- The document's Number (of four bytes) and Sealed. -/
import Derived.Test.YtedminjnnhlknaaGreatDoorGbRcN
import Derived.Test.YtedminjnnhlknaaGreatDoorGbRcJ
import Derived.Test.YtedminjnnhlknaaGreatDoorGbTjB
import Derived.Test.YtedminjnnhlknaaGreatDoorGbRcY
import Derived.Test.YtedminjnnhlknaaGreatDoorGbTjF
import Derived.Test.YtedminjnnhlknaaGreatDoorGbHdrG
namespace Go.Proofs.YtedminjnnhlknaaGreatDoor
open Go Go.RowKit

theorem one_new (W : World) (c : UInt8) (t : TypeId) (fr : Nat × Nat) : (convert 22 9 (.slice (some ⟨W.heap.size, 0, none⟩) 1 1)).run Tryz.prog (W.alloc (.cells #[.int .u8 (c.toNat : Int)] t fr)) = .ok (.string ⟨#[c]⟩) (W.alloc (.cells #[.int .u8 (c.toNat : Int)] t fr)) := by
  have h : bytesArg (W.alloc (.cells #[.int .u8 (c.toNat : Int)] t fr)) (.slice (some ⟨W.heap.size, 0, none⟩) 1 1) [c] := ⟨_, 1, rfl, Nat.le_refl _, by decide, sliceAt_new W t fr _ [c] rfl⟩
  exact bytesArg_string h
theorem sum4_at (N k : Nat) (hk : k < 4) : (sum4 N).take (k + 1) = (sum4 N).take k ++ [UInt8.ofNat (N / 256 ^ k)] := by
  have h : k = 0 ∨ k = 1 ∨ k = 2 ∨ k = 3 := by omega
  rcases h with rfl | rfl | rfl | rfl <;> simp [sum4]
set_option maxRecDepth 100000 in
set_option maxHeartbeats 2000000 in
theorem refNumber4_any (N : Nat) (hN : N < 4294967296) (w : World) :
    Calls Tryz.prog 25 #[.int .u64 (N : Int), .int .i64 4] w fun e w' => ∃ S : ByteArray, e = .returned (.string S) ∧ S.data.toList = sum4 N ∧ Below w.heap.size w w' := by
  go_enter Tryz.func25, Tryz.ntmps25
  go_wp2_with fail
  go_loopg [0, 5, 6] 4 (fun g x0 x5 x6 wr => ∃ (k X : Nat) (S : ByteArray), k ≤ 4 ∧ g = 4 - k ∧ x0 = .int .u64 (X : Int) ∧ x5 = .string S ∧ x6 = .int .i64 (k : Int) ∧ X < 4294967296 ∧ S.size = k ∧ Hid (X = N / 256 ^ k) ∧ Hid (S.data.toList = (sum4 N).take k) ∧ Hid (Below w.heap.size w wr))
  case atStart => exact ⟨0, N, ⟨#[]⟩, by omega, by omega, rfl, rfl, rfl, hN, rfl, by unfold Hid; simp, rfl, Below.refl _ _⟩
  case round =>
    obtain ⟨k, X, S, hk, rfl, rfl, rfl, rfl, hX, hsz, HX, HS, HB⟩ := hrel
    by_cases hlt : k < 4
    · obtain ⟨c, hc⟩ : ∃ c, c = UInt8.ofNat X := ⟨_, rfl⟩
      have hcn : c.toNat = X % 256 := by rw [hc, UInt8.toNat_ofNat']
      have m1 : (X : Int) % 256 = (c.toNat : Int) := by omega
      have m2 : (X : Int).tmod 256 = (c.toNat : Int) := by rw [Int.tmod_eq_emod_of_nonneg (by omega)]; exact m1
      obtain ⟨Y, hY⟩ : ∃ Y, Y = X / 256 := ⟨_, rfl⟩
      have d1 : (X : Int) / 256 = (Y : Int) := by omega
      have d2 : (X : Int).tdiv 256 = (Y : Int) := by rw [Int.tdiv_eq_ediv_of_nonneg (by omega)]; exact d1
      have hYl : Y < 4294967296 := by omega
      have HY : Hid (Y = N / 256 ^ (k + 1)) := by
        unfold Hid
        rw [hY, HX.out, Nat.pow_succ, Nat.div_div_eq_div_mul]
      have HS2 : Hid ((sum4 N).take (k + 1) = (sum4 N).take k ++ [c]) := by unfold Hid; rw [hc, HX.out]; exact sum4_at N k hlt
      have kc := one_new wr c 5 (0, 0)
      have HCn := Lib.hid hcn
      clear hY hcn hc
      go_wp2_with fail
      go_roundg (4 - (k + 1))
      case measure => omega
      case rel =>
        refine ⟨k + 1, Y, S ++ ⟨#[c]⟩, by omega, rfl, rfl, rfl, by go_num, hYl, ?_, HY, ?_, ?_⟩
        · rw [ByteArray.size_append, hsz]; rfl
        · unfold Hid; rw [HS2.out, cat_toList, HS.out]
        · exact HB.out.alloc HB.out.size _
    · obtain rfl : k = 4 := by omega
      go_wp2_with fail
      go_ret
      exact ⟨S, rfl, HS.out, HB.out⟩
set_option maxHeartbeats 1000000 in
theorem refSeal_any (S : ByteArray) (w : World) (hS : S.size ≤ 1000000) :
    Calls Tryz.prog 13 #[.string S] w fun e w' => ∃ R : ByteArray, e = .returned (.string R) ∧ R.data.toList = sealL S.data.toList ∧ Below w.heap.size w w' := by
  have HO := Lib.hid (refOf_any S w hS)
  obtain ⟨c, hc⟩ : ∃ c, c = moreS 0 S.data.toList := ⟨_, rfl⟩
  have hcl : c < 4294967296 := by rw [hc]; exact moreS_lt _ _
  have HN := Lib.hid (refNumber4_any c hcl w)
  rw [← hc] at HO
  have HC : Hid (crcN S.data.toList = c) := hc.symm
  clear hc
  go_enter Tryz.func13, Tryz.ntmps13
  go_wp2_with fail
  with_reducible refine (HO.out).mono ?_
  rintro e w1 ⟨rfl, rfl⟩
  go_wp2_with fail
  with_reducible refine (HN.out).mono ?_
  rintro e w2 ⟨R, rfl, hR, hb⟩
  have HR : Hid ((S ++ R).data.toList = sealL S.data.toList) := by unfold Hid sealL; rw [cat_toList, hR, HC.out]
  have HB := Lib.hid hb
  have hsz : R.size = 4 := by rw [bytes_len, hR]; rfl
  clear hb hR
  go_wp2_with fail
  go_ret
  exact ⟨_, rfl, HR.out, HB.out⟩
end Go.Proofs.YtedminjnnhlknaaGreatDoor

/- Records, in plain words: errors have numbers, a tree that is read is not too deep. No program. -/
namespace Go.Proofs.YtedminjnnhlknaaGreatDoor
open Go Go.RowKit

def NZ {α : Type} (F : List UInt8 → Rs α) : Prop := ∀ s e, F s = .no e → e ≠ 0
theorem NZ.ok {α : Type} (v : α) : NZ (fun s => Rs.ok v s) := fun s e h => by cases h
theorem NZ.no {α : Type} {e : Nat} (he : e ≠ 0) : NZ (fun _ => (Rs.no e : Rs α)) := fun s e' h => by cases h; exact he
theorem NZ.bind {α β : Type} {F : List UInt8 → Rs α} {G : α → List UInt8 → Rs β} (hF : NZ F) (hG : ∀ v, NZ (G v)) : NZ (fun s => (F s).bind G) := fun s e h => by
  cases hf : F s with
  | no e' => simp only [hf, Rs.bind] at h; cases h; exact hF s e hf
  | ok v Y => simp only [hf, Rs.bind] at h; exact hG v Y e h
theorem NZ.ite {α : Type} {F G : List UInt8 → Rs α} (c : Prop) [Decidable c] (hF : NZ F) (hG : NZ G) : NZ (fun s => if c then F s else G s) := by
  by_cases h : c
  · simpa [h] using hF
  · simpa [h] using hG
theorem numL_nz : ∀ (f p a : Nat), NZ (numL f p a)
  | 0, _, _ => fun s e h => by cases h; decide
  | f + 1, p, a => fun s e h => by
    cases s with
    | nil => cases h; decide
    | cons d r =>
      unfold numL at h
      by_cases h1 : 128 ≤ d.toNat
      · rw [if_pos h1] at h
        exact numL_nz f (p + 1) _ r e h
      · rw [if_neg h1] at h
        split at h
        · cases h; decide
        · cases h
theorem numP_nz : NZ numP := numL_nz 7 0 0
theorem takeP_nz (n : Nat) : NZ (takeP n) := fun s e h => by
  unfold takeP at h
  split at h
  · cases h; decide
  · cases h
theorem rkidsP_nz {F : Nat → List UInt8 → Rs Tr} (hF : ∀ a, NZ (F a)) : ∀ (n a : Nat), NZ (rkidsP F n a)
  | 0, _ => NZ.ok _
  | n + 1, _ => numP_nz.bind fun _ => numP_nz.bind fun _ => (hF _).bind fun _ => (rkidsP_nz hF n _).bind fun _ => NZ.ok _
theorem restP_nz {F : Nat → List UInt8 → Rs Tr} (hF : ∀ a, NZ (F a)) (a k : Nat) : NZ (restP F a k) :=
  numP_nz.bind fun _ => numP_nz.bind fun _ => NZ.ite _ (numP_nz.bind fun n => NZ.ite _ (NZ.no (by decide)) ((rkidsP_nz hF n _).bind fun _ => numP_nz.bind fun _ => numP_nz.bind fun _ => NZ.ok _))
    (NZ.ite _ ((hF _).bind fun _ => NZ.ok _) (NZ.ok _))
theorem treeP_nz : ∀ (d a : Nat), NZ (treeP d a)
  | 0, _ => NZ.no (by decide)
  | d + 1, a => numP_nz.bind fun k => NZ.ite _ (NZ.no (by decide)) (restP_nz (fun a => treeP_nz d a) a k)
theorem msgP_nz (n c : Nat) : NZ (msgP n c) :=
  numP_nz.bind fun _ => NZ.ite _ (NZ.no (by decide)) ((takeP_nz 4).bind fun _ => NZ.ite _ (NZ.no (by decide)) (NZ.ok ()))
theorem readP_nz {T : List UInt8 → Rs Tr} (hT : NZ T) (l rec : List UInt8) {e : Nat} (h : readP T l rec = .no e) : e ≠ 0 := by
  unfold readP headP at h
  split at h
  · cases h; decide
  split at h
  · cases h; decide
  split at h
  · have hb : NZ (bodyP T l.length (crcN l)) := (msgP_nz _ _).bind fun _ => hT
    cases hh : bodyP T l.length (crcN l) ((rec.take (rec.length - 4)).drop 3) with
    | no e' =>
      replace h : endP (bodyP T l.length (crcN l) ((rec.take (rec.length - 4)).drop 3)) = .no e := h
      rw [hh] at h
      cases h
      exact hb _ _ hh
    | ok v r =>
      replace h : endP (bodyP T l.length (crcN l) ((rec.take (rec.length - 4)).drop 3)) = .no e := h
      rw [hh] at h
      cases r with
      | nil => cases h
      | cons _ _ => cases h; decide
  · cases h; decide
/-- The tree of a record that is read. -/
theorem readP_tree {T : List UInt8 → Rs Tr} {l rec : List UInt8} {t : Tr} {r : List UInt8} (h : readP T l rec = .ok t r) : r = [] ∧ ∃ s, s.length ≤ rec.length ∧ T s = .ok t [] := by
  obtain ⟨_, s, h1, h⟩ := bind_ok h
  have hs : s.length ≤ rec.length := by
    unfold headP at h1
    split at h1
    · cases h1
    split at h1
    · cases h1
    split at h1
    · cases h1
      rw [List.length_drop, List.length_take]
      omega
    · cases h1
  cases hb : bodyP T l.length (crcN l) s with
  | no e => rw [hb] at h; cases h
  | ok v q =>
    rw [hb] at h
    cases q with
    | cons _ _ => cases h
    | nil =>
      cases h
      obtain ⟨_, s1, h5, h6⟩ := bind_ok hb
      have h7 := msgP_inv h5
      refine ⟨rfl, s1, ?_, h6⟩
      rw [h7] at hs
      simp only [List.length_append] at hs
      omega
theorem readP_bounds {l rec : List UInt8} {t : Tr} {r : List UInt8} (h : readP (treeP 33 0) l rec = .ok t r) : r = [] ∧ deepT t ≤ 32 ∧ countT t ≤ rec.length := by
  obtain ⟨h1, s, h2, h3⟩ := readP_tree h
  have := treeP_bound 32 0 s t [] h3
  refine ⟨h1, this.1, ?_⟩
  have h4 := this.2
  simp only [List.length_nil] at h4
  omega
end Go.Proofs.YtedminjnnhlknaaGreatDoor

/- Get of any record: what it finds is the one record of the message and the tree. -/
namespace Go.Proofs.YtedminjnnhlknaaGreatDoor
open Go Go.RowKit

/-- A tree that may be that of so many bytes. -/
def fitT (t : Tr) (n : Nat) : Prop := goodT t ∧ countT t ≤ 1000 ∧ deepT t ≤ 32 ∧ chainT 0 n (tilesT t)
theorem fit_own (l : List UInt8) : fitT (treeS l) l.length := ⟨(tree_Q l).1, tree_count l, tree_deep l, (tree_Q l).2.2.2⟩
theorem fit_read {t : Tr} {l : List UInt8} (h : fitT t l.length) (hl : l.length ≤ 100000) : readP (treeP 33 0) l (putR l t) = .ok t [] := by
  obtain ⟨h1, h2, h3, h4⟩ := h
  have e := chain_end t _ _ h1 h4
  have hp := treeP_put t 32 l.length [] h1 (by rw [← e.1]; exact h4) (by omega) h3 h2
  rw [← e.1, List.append_nil] at hp
  rw [readP_put (T := treeP 33 0) l l t (by omega) hp, if_pos ⟨rfl, rfl⟩]
theorem getOne_any (mv v : Value) (l rec : List UInt8) (w : World) (hm : bytesArg w mv l) (hl : l.length ≤ 100000) (hv : bytesArg w v rec) (hbig : rec.length ≤ 500000) (hg : errG w) :
    Calls Tryz.prog 9 #[mv, v] w fun e w' => Below w.heap.size w w' ∧ ∃ (k0 a1 a2 a3 a4 : Int) (ka : Option Addr) (kn kc : Nat) (ca : Option Addr) (cn cc : Nat) (a7 a8 : Int) (code : Int),
      e = .returned (.tuple #[.agg #[.int .i64 k0, .int .i64 a1, .int .i64 a2, .int .i64 a3, .int .i64 a4, .slice ka kn kc, .slice ca cn cc, .int .i64 a7, .int .i64 a8], .int .i64 code]) ∧
      ((code ≠ 0 ∧ ∀ t, fitT t l.length → rec ≠ putR l t) ∨ (code = 0 ∧ ∃ t, fitT t l.length ∧ rec = putR l t ∧ treeAt (fun k => w.heap.size ≤ k) w' t (.agg #[.int .i64 k0, .int .i64 a1, .int .i64 a2, .int .i64 a3, .int .i64 a4, .slice ka kn kc, .slice ca cn cc, .int .i64 a7, .int .i64 a8]))) := by
  cases hq : readP (treeP 33 0) l rec with
  | no x =>
    refine (recGet_any 0 mv v l rec w hm hv hbig hg (fun t ht => by rw [hq] at ht; cases ht)).mono ?_
    rintro e w' ⟨hb, k0, a1, a2, a3, a4, ka, kn, kc, ca, cn, cc, a7, a8, code, rfl, ho⟩
    rw [hq] at ho
    have hc : code = (x : Int) := ho
    have hx := readP_nz (treeP_nz 33 0) l rec hq
    refine ⟨hb, k0, a1, a2, a3, a4, ka, kn, kc, ca, cn, cc, a7, a8, code, rfl, .inl ⟨by omega, fun t ht hr => ?_⟩⟩
    rw [hr, fit_read ht hl] at hq
    cases hq
  | ok t r =>
    obtain ⟨rfl, hd, hcn⟩ := readP_bounds hq
    obtain ⟨c, hck, hc0⟩ := checkB_any t l.length (by omega) hd
    refine (recGet_any c mv v l rec w hm hv hbig hg (fun t' ht' => by rw [hq] at ht'; cases ht'; exact hck)).mono ?_
    rintro e w' ⟨hb, k0, a1, a2, a3, a4, ka, kn, kc, ca, cn, cc, a7, a8, code, rfl, ho⟩
    rw [hq] at ho
    refine ⟨hb, k0, a1, a2, a3, a4, ka, kn, kc, ca, cn, cc, a7, a8, code, rfl, ?_⟩
    rcases ho with ⟨h1, h2, h3⟩ | ⟨h1, h2⟩
    · obtain ⟨g1, g2, g3, g4, g5⟩ := hc0.1 h1
      exact .inr ⟨h2, t, ⟨g2, g1, hd, g5⟩, (readP_inv hq).1, h3⟩
    · refine .inl ⟨by rw [h2]; exact h1, fun t' ht' hr => h1 (hc0.2 ?_)⟩
      rw [hr, fit_read ht' hl] at hq
      cases hq
      obtain ⟨g1, g2, g3, g4⟩ := ht'
      have e := chain_end t _ _ g1 g4
      exact ⟨g2, g1, e.1.symm, e.2.symm, g4⟩
end Go.Proofs.YtedminjnnhlknaaGreatDoor

/- The laws of layer 14 (record): RecordOne. -/
namespace Go.Proofs.YtedminjnnhlknaaGreatDoor
open Go Go.RowKit

theorem tree_new {w : World} {cs : Array Value} {ty : TypeId} {t : Tr} {u : Value} {S : Nat → Prop} (h : treeAt S w t u) :
    treeAt (fun k => k < (w.alloc (.cells cs ty)).heap.size) (w.alloc (.cells cs ty)) t u :=
  treeAt.keep (fun q _ hq => ⟨(below_new w _).block q hq, Nat.lt_of_lt_of_le hq (below_new w _).size⟩) _ _ h
theorem core_len (l : List UInt8) (t : Tr) : 8 ≤ (coreL l t).length := by
  unfold coreL frontL
  simp only [List.length_append, List.length_cons, sum4_len]
  have h := putT_eq t
  have h1 := numB_pos l.length
  have h2 := numB_pos t.kind
  rw [h]
  simp only [List.length_append]
  omega
theorem xor_zero (b x : UInt8) (h : x.toNat = 0) : xorB b x.toNat = b := (xorB_same b x.toNat_lt).2 h
set_option maxRecDepth 100000 in
set_option maxHeartbeats 4000000 in
theorem recordOne_any (v : Value) (l : List UInt8) (rv : Value) (rl : List UInt8) (at0 : Nat) (x : UInt8) (w : World) (hv : bytesArg w v l) (hrv : bytesArg w rv rl) (hat : at0 ≤ 65535) (he : env w) (hg : errG w) :
    Calls Tryz.prog 5 #[v, rv, .int .u16 (at0 : Int), .int .u8 (x.toNat : Int)] w fun e w' => e = .returned (.bool true) ∧ Below w.heap.size w w' := by
  obtain ⟨i0, hi, hz0, hz1, hz2⟩ := info_parts Tryz.infoB
  have HAw := Lib.hid (awake14_any w he hg)
  have HE := Lib.hid he
  have HG := Lib.hid hg
  have HV := Lib.hid hv
  obtain ⟨ao, cap, rfl, hc, hm, -⟩ := hv
  obtain ⟨ro, rcap, rfl, -, -, -⟩ := hrv
  have hxt := x.toNat_lt
  clear he hg
  by_cases hbig : 600 < l.length
  · have hd : (600 : Int) < (l.length : Int) := by omega
    have hdd : decide ((600 : Int) < (l.length : Int)) = true := decide_eq_true hd
    have hd2 : decide (600 < l.length) = true := decide_eq_true hbig
    go_enter Tryz.func5, Tryz.ntmps5
    go_wp2_with fail
    with_reducible refine HAw.out.mono ?_
    rintro e w1 ⟨rfl, hb1⟩
    have HB1 := Lib.hid hb1; clear hb1
    go_wp2_with fail
    go_ret
    exact ⟨rfl, HB1.out⟩
  have hd : ¬ (600 : Int) < (l.length : Int) := by omega
  have hdd : decide ((600 : Int) < (l.length : Int)) = false := decide_eq_false hd
  have hd2 : decide (600 < l.length) = false := decide_eq_false hbig
  by_cases hrb : 300 < rl.length
  · have hr : (300 : Int) < (rl.length : Int) := by omega
    have hrd : decide ((300 : Int) < (rl.length : Int)) = true := decide_eq_true hr
    have hr2 : decide (300 < rl.length) = true := decide_eq_true hrb
    go_enter Tryz.func5, Tryz.ntmps5
    go_wp2_with fail
    with_reducible refine HAw.out.mono ?_
    rintro e w1 ⟨rfl, hb1⟩
    have HB1 := Lib.hid hb1; clear hb1
    go_wp2_with fail
    go_ret
    exact ⟨rfl, HB1.out⟩
  have hr : ¬ (300 : Int) < (rl.length : Int) := by omega
  have hrd : decide ((300 : Int) < (rl.length : Int)) = false := decide_eq_false hr
  have hr2 : decide (300 < rl.length) = false := decide_eq_false hrb
  have hlb : l.length ≤ 100000 := by omega
  have HLb := Lib.hid hlb
  have HPa := Lib.hid (fun W (hb : Below w.heap.size w W) => parse13_any (.slice ao l.length cap) l W (HV.out.below hb) HLb.out (HE.out.below hb))
  clear hlb
  go_enter Tryz.func5, Tryz.ntmps5
  go_wp2_with fail
  with_reducible refine HAw.out.mono ?_
  rintro e w1 ⟨rfl, hb1⟩
  have HB1 := Lib.hid hb1
  clear hb1 HAw
  go_wp2_with fail
  with_reducible refine (HPa.out _ HB1.out).mono ?_
  rintro e w3 ⟨kd, h2, b1, e1, e2, ka, kn, kc, ca, cn, cc, rfl, ht, hb3⟩
  clear HPa
  go_upto_region 7 with fail
  obtain ⟨Y, hY⟩ : ∃ Y, Y = w3.alloc (.cells #[.int .i64 kd, .int .i64 0, .int .i64 h2, .int .i64 b1, .int .i64 (l.length : Int), .slice ka kn kc, .slice ca cn cc, .int .i64 e1, .int .i64 e2] 31) := ⟨_, rfl⟩
  have hbY : Below w3.heap.size w3 Y := by rw [hY]; exact below_new w3 _
  have HY9 : Hid (Y.heap[w3.heap.size]? = some (.cells #[.int .i64 kd, .int .i64 0, .int .i64 h2, .int .i64 b1, .int .i64 (l.length : Int), .slice ka kn kc, .slice ca cn cc, .int .i64 e1, .int .i64 e2] 31 (0, 0))) := by rw [hY]; exact heap_alloc_new w3 _
  have HTY : Hid (treeAt (fun k => k < Y.heap.size) Y (treeS l) (.agg #[.int .i64 kd, .int .i64 0, .int .i64 h2, .int .i64 b1, .int .i64 (l.length : Int), .slice ka kn kc, .slice ca cn cc, .int .i64 e1, .int .i64 e2])) := by rw [hY]; exact box_new ht
  have hrY := hb3.trans (hbY.mono hb3.size)
  have HBY := Lib.hid (HB1.out.trans (hrY.mono HB1.out.size))
  rw [← hY]
  have HPu := Lib.hid (putOwn_any (.slice ao l.length cap) l _ Y (HV.out.below HBY.out) HLb.out HTY.out)
  obtain ⟨p0, p1, p2, p3, p4, p5, p6, p7, p8⟩ := nine_of_heap HY9.out
  clear hY hbY ht hb3 hrY HB1
  go_wp2_with fail
  with_reducible refine HPu.out.mono ?_
  rintro e w5 ⟨r, rfl, hr5, hb5⟩
  have HB5 := Lib.hid (HBY.out.trans (hb5.mono HBY.out.size))
  obtain ⟨core, hcore⟩ : ∃ core, core = coreL l (treeS l) := ⟨_, rfl⟩
  have HCore := Lib.hid hcore
  have hput : putR l (treeS l) = sealL core := by rw [hcore]; rfl
  have HPR := Lib.hid hput
  have hcl : 8 ≤ core.length := by rw [hcore]; exact core_len _ _
  have hln : (putR l (treeS l)).length = core.length + 4 := by rw [hput]; exact seal_len _
  have hmx : core.length + 4 ≤ 200000 := by rw [← hln]; exact putR_len l HLb.out
  obtain ⟨qo, qcap, rfl, q1, q2, q3⟩ := hr5
  have HQ3 : Hid (sliceAt w5 qo core) := by
    have h := sliceAt.take q3 core.length
    have e5 : (putR l (treeS l)).take core.length = core := by
      rw [hput]
      have h2 := seal_take core
      rw [seal_len, Nat.add_sub_cancel] at h2
      exact h2
    rw [e5] at h
    exact h
  rw [hln] at q1 ⊢
  obtain ⟨n, hn⟩ : ∃ n, n = core.length + 4 := ⟨_, rfl⟩
  rw [← hn] at q1 hmx ⊢
  have hn4 : ¬ (n : Int) < 4 := by omega
  have hn4d : decide ((n : Int) < 4) = false := decide_eq_false hn4
  have hn4e : decide (n < 4) = false := decide_eq_false (by omega)
  have h0 : (n : Int) - 4 = (core.length : Int) := by omega
  have h0a : core.length ≤ n := by omega
  have h0b : core.length ≤ qcap := by omega
  have h0c : ¬ (core.length : Int) < 0 := by omega
  have HN := Lib.hid hn
  clear hb5 p0 p1 p2 p3 p4 p5 p6 p7 p8 q3 hput hln hcore HPu HY9 HTY hn
  unfold maxLen at q2
  go_wp2_with (at_builtin; refine wpList_append_bytes rfl _ _ 22 rfl w5.heap.size 5 i0 Tryz.underlying22 hi hz0 hz1 hz2 _ _ _ rfl (World.ownsRow_nil _ _ _ _) qo qcap core rfl HQ3.out ?c1 ?c2 ?_)
  case c1 => omega
  case c2 => exact Nat.le_refl _
  intro v2 w2 hown2 hgrow2
  have HB12 : Hid (Below w5.heap.size w5 w2) := (Below.refl _ _).grown hgrow2 (Nat.le_refl _) (fun k hk => by cases hk)
  have hown2 := own_cast (n' := core.length) (ys := core.map byteV) hown2 (by simp) (by simp)
  obtain ⟨g, cp, rfl, hc2, hm2, hg1, hg2⟩ := ownsRow_slice hown2 (by omega)
  have HO2 := Lib.hid hown2
  have HB2 : Hid (Below w.heap.size w w2) := HB5.out.trans (HB12.out.mono HB5.out.size)
  have hl0 : ¬ core.length = 0 := by omega
  have t0 : ((core.length : Int) == 0) = false := beq_no (by omega)
  obtain ⟨K, hK⟩ : ∃ K, K = at0 % core.length := ⟨_, rfl⟩
  have hKl : K < core.length := by rw [hK]; exact Nat.mod_lt _ (by omega)
  have eK : (at0 : Int) % (core.length : Int) = (K : Int) := by rw [hK]; simp
  clear hK
  obtain ⟨c0, hc0⟩ : ∃ c, c = core[K] := ⟨_, rfl⟩
  have hbits := xorB_bits c0 hxt
  obtain ⟨y, hy⟩ : ∃ y, y = xorB c0 x.toNat := ⟨_, rfl⟩
  rw [← hy] at hbits
  have hcell : w2.cell? ⟨g, K, none⟩ = some (.int .u8 (c0.toNat : Int)) := by
    rw [HO2.out.cellAt K (by omega), List.getElem?_map, List.getElem?_eq_getElem hKl, ← hc0]
    rfl
  have hfr := HO2.out.frozenAt K
  obtain ⟨core2, hcore2⟩ : ∃ core2, core2 = core.set K y := ⟨_, rfl⟩
  have HSame : Hid (x.toNat = 0 → core2 = core) := fun h => by
    rw [hcore2, hy, xor_zero c0 x h, hc0]
    exact List.set_getElem_self hKl
  have hl2 : core2.length = core.length := by rw [hcore2, List.length_set]
  have HO3 : Hid ((w2.setCell ⟨g, K, none⟩ (.int .u8 (y.toNat : Int))).ownsRow w5.heap.size 5 1 (.slice (some ⟨g, 0, none⟩) core.length cp) core.length (core2.map byteV)) := by
    have := (HO2.out.stored K (byteV y)).1
    rw [← List.map_set] at this
    rw [hcore2]
    exact this
  have HB3 : Hid (Below w.heap.size w (w2.setCell ⟨g, K, none⟩ (.int .u8 (y.toNat : Int)))) := HB2.out.setCell (Nat.le_trans HB5.out.size hg1) _
  have HL2 := Lib.hid hl2
  unfold maxLen at hm2
  clear hown2 hgrow2 hy hc0 hcore2 hl2
  go_upto_region 13 with fail
  obtain ⟨w4, hw4⟩ : ∃ w4, w4 = w2.setCell ⟨g, K, none⟩ (.int .u8 (y.toNat : Int)) := ⟨_, rfl⟩
  rw [← hw4] at HO3 HB3 ⊢
  clear hw4 hcell hfr
  have ks := bytesArg_string (bytesArg_owned HO3.out)
  obtain ⟨S, hS⟩ : ∃ S : ByteArray, S = ⟨core2.toArray⟩ := ⟨_, rfl⟩
  rw [← hS] at ks
  have hSl : S.data.toList = core2 := by rw [hS]
  have HSe := Lib.hid (refSeal_any S w4 (by rw [bytes_len, hSl, HL2.out]; omega))
  rw [hSl] at HSe
  clear hS hSl
  go_wp2_with fail
  with_reducible refine HSe.out.mono ?_
  rintro e w6 ⟨R, rfl, hR, hb6⟩
  have HB6 := Lib.hid (HB3.out.trans (hb6.mono HB3.out.size))
  have hRs : R.size = core.length + 4 := by rw [bytes_len, hR, seal_len, HL2.out]
  obtain ⟨w7, c7, hrun, hba, hb7⟩ := conv_bytesArg (P := Tryz.prog) w6 9 22 5 R (by rw [hRs]; unfold maxLen; omega) Tryz.underlying9 Tryz.underlying22 Tryz.underlying5
  have HB7 := Lib.hid (HB6.out.trans (hb7.mono HB6.out.size))
  obtain ⟨cl, hcl2⟩ : ∃ cl, cl = R.data.toList := ⟨_, rfl⟩
  have HCl : Hid (cl = sealL core2) := hcl2.trans hR
  have hcs : R.size = cl.length := by rw [hcl2, bytes_len]
  have hcll : cl.length ≤ 500000 := by rw [← hcs, hRs]; omega
  rw [← hcl2, hcs] at hba
  rw [hcs] at hrun
  have HBa := Lib.hid hba
  have HGe := Lib.hid (getOne_any (.slice ao l.length cap) _ l cl w7 (HV.out.below HB7.out) HLb.out hba hcll (HG.out.below HB7.out))
  have HCll := Lib.hid hcll
  clear hR hb6 hb7 hba hcl2 hcs HSe ks hRs hcll
  go_wp2_with fail
  with_reducible refine HGe.out.mono ?_
  rintro e w8 ⟨hb8, k0, a1, a2, a3, a4, kb, km, kz, cb, cm, cz, a7, a8, code, rfl, ho⟩
  clear HGe
  go_upto_region 15 with fail
  obtain ⟨Z, hZ⟩ : ∃ Z, Z = w8.alloc (.cells #[.int .i64 k0, .int .i64 a1, .int .i64 a2, .int .i64 a3, .int .i64 a4, .slice kb km kz, .slice cb cm cz, .int .i64 a7, .int .i64 a8] 31) := ⟨_, rfl⟩
  have hbZ : Below w8.heap.size w8 Z := by rw [hZ]; exact below_new w8 _
  have HZ9 : Hid (Z.heap[w8.heap.size]? = some (.cells #[.int .i64 k0, .int .i64 a1, .int .i64 a2, .int .i64 a3, .int .i64 a4, .slice kb km kz, .slice cb cm cz, .int .i64 a7, .int .i64 a8] 31 (0, 0))) := by rw [hZ]; exact heap_alloc_new w8 _
  have h7Z := hb8.trans (hbZ.mono hb8.size)
  have HBZ := Lib.hid (HB7.out.trans (h7Z.mono HB7.out.size))
  have HBaZ := Lib.hid (HBa.out.below h7Z)
  rcases ho with ⟨hne, hno⟩ | ⟨rfl, t, ht, hcl3, htr⟩
  · have t1 : (code != 0) = true := bne_yes hne
    have hx0 : ¬ (x.toNat : Int) = 0 := fun h => by
      refine hno (treeS l) (fit_own l) ?_
      rw [HCl.out, HSame.out (by omega), HPR.out]
    have t2 : ((x.toNat : Int) != 0) = true := bne_yes hx0
    rw [← hZ]
    clear hZ hbZ hb8 h7Z hno
    go_wp2_with fail
    go_ret
    exact ⟨rfl, HBZ.out⟩
  · obtain ⟨g1, g2, g3, g4⟩ := ht
    have HTZ : Hid (treeAt (fun k => k < Z.heap.size) Z t (.agg #[.int .i64 k0, .int .i64 a1, .int .i64 a2, .int .i64 a3, .int .i64 a4, .slice kb km kz, .slice cb cm cz, .int .i64 a7, .int .i64 a8])) := by rw [hZ]; exact tree_new htr
    have HPu := Lib.hid (put_any (.slice ao l.length cap) l t _ Z (HV.out.below HBZ.out) HLb.out g1 g2 g3 g4 HTZ.out)
    rw [← hcl3] at HPu
    rw [← hZ]
    obtain ⟨p0, p1, p2, p3, p4, p5, p6, p7, p8⟩ := nine_of_heap HZ9.out
    clear hZ hbZ hb8 h7Z htr g1 g2 g3 g4 hcl3
    go_wp2_with fail
    with_reducible refine HPu.out.mono ?_
    rintro e w9 ⟨rr, rfl, hrr, hb9⟩
    have HB9 := Lib.hid (HBZ.out.trans (hb9.mono HBZ.out.size))
    have kr := bytesArg_string (bytesArg_owned hrr)
    have ks := bytesArg_string (HBaZ.out.below hb9)
    have ke : (cl == cl) = true := by simp
    clear p0 p1 p2 p3 p4 p5 p6 p7 p8 hrr hb9 HPu
    go_wp2_with fail
    go_ret
    exact ⟨rfl, HB9.out⟩
end Go.Proofs.YtedminjnnhlknaaGreatDoor
