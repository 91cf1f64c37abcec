/- Contracts of package addr: items; List. -/
import Derived.Test.YtjlcphofkepajaaGreatAdN
namespace Go.Proofs.YtjlcphofkepajaaGreat
open Go Go.RowKit

set_option maxRecDepth 100000 in
set_option maxHeartbeats 2000000 in
theorem itemsI_any (base B : Nat) (s : ByteArray) (ts : List Tok) (b : Bool) (al0 : List Adr) (w : World) (h : St w base B s ts b al0) (hl : s.size ≤ 1000000000) (hn : al0.length + ts.length ≤ 900000000000) :
    Calls Tryz.prog 14 #[.pointer (some ⟨B, 0, none⟩), .func (.func 15) #[.pointer (some ⟨B, 0, none⟩)] #[]] w (Does base B s b al0 w (itemsT itemT (ts.length + 1) ts)) := by
  have HG := Lib.hid (fun t1 acc W h (hq : (al0 ++ acc).length + t1.length + 2 ≤ 1000000000000) => item_any base B s t1 b (al0 ++ acc) W h hl hq)
  have HTk := Lib.hid (fun t1 acc W h => takesS_any base B s t1 b (al0 ++ acc) 44 44 rfl W h hl)
  have HS := Lib.hid h
  unfold Does at HG ⊢
  clear h
  go_enter Tryz.func14, Tryz.ntmps14
  go_wp2_with fail
  go_loopg [] ts.length (fun g wr => ∃ (n : Nat) (t1 : List Tok) (acc : List Adr), g = t1.length ∧ t1.length < n ∧ acc.length + t1.length ≤ ts.length ∧ Hid (St wr base B s t1 b (al0 ++ acc)) ∧ Hid (Kp B w wr) ∧
    Hid (itemsT itemT (ts.length + 1) ts = ((itemsT itemT n t1).1, (itemsT itemT n t1).2.1, acc ++ (itemsT itemT n t1).2.2)))
  case atStart => exact ⟨ts.length + 1, ts, [], rfl, by omega, by simp, by rw [List.append_nil]; exact HS.out, Kp.refl _ _, rfl⟩
  case round =>
    obtain ⟨n, t1, acc, rfl, hn1, hal, HSr, HK, HE⟩ := hrel
    obtain ⟨n, rfl⟩ : ∃ n', n = n' + 1 := ⟨n - 1, by omega⟩
    have HX := Lib.hid (HG.out t1 acc wr HSr.out (by rw [List.length_append]; omega))
    have hf := itemT_fair t1
    rcases hx : itemT t1 with ⟨b1, t2, l⟩
    rw [hx] at HX hf
    cases b1 with
    | false =>
      have HP := Lib.hid (itemsT_bad (n := n) hx)
      clear hx hf
      go_wp2_with fail
      with_reducible refine HX.out.mono ?_
      rintro e w2 ⟨rfl, hs2, hk2⟩
      have HS2 := Lib.hid hs2
      have HK2 := Lib.hid (HK.out.trans hk2)
      clear hs2 hk2
      go_wp2_with fail
      go_ret
      rw [HE.out, HP.out]
      exact ⟨rfl, by rw [← List.append_assoc]; exact HS2.out, HK2.out⟩
    | true =>
      simp only [if_true, Nat.add_zero] at hf
      have HT := Lib.hid (fun W h => HTk.out t2 (acc ++ l) W h)
      have hlen := takesT_len 44 t2
      rcases hy : takesT 44 t2 with ⟨b2, t3⟩
      rw [hy] at HT hlen
      cases b2 with
      | false =>
        have HP := Lib.hid (itemsT_last (n := n) hx hy)
        clear hx hf hy hlen
        go_wp2_with fail
        with_reducible refine HX.out.mono ?_
        rintro e w2 ⟨rfl, hs2, hk2⟩
        rw [List.append_assoc] at hs2
        have HT2 := Lib.hid (HT.out w2 hs2)
        have HK2 := Lib.hid (HK.out.trans hk2)
        clear hs2 hk2
        go_wp2_with fail
        with_reducible refine HT2.out.mono ?_
        rintro e w3 ⟨rfl, hs3, hk3⟩
        have HS3 := Lib.hid hs3
        have HK3 := Lib.hid (HK2.out.trans hk3)
        clear hs3 hk3
        go_wp2_with fail
        go_ret
        rw [HE.out, HP.out]
        exact ⟨rfl, HS3.out, HK3.out⟩
      | true =>
        have HP := Lib.hid (itemsT_more (n := n) hx hy)
        have hlen3 : t3.length + 1 = t2.length := by simpa using hlen
        clear hx hy hlen
        go_wp2_with fail
        with_reducible refine HX.out.mono ?_
        rintro e w2 ⟨rfl, hs2, hk2⟩
        rw [List.append_assoc] at hs2
        have HT2 := Lib.hid (HT.out w2 hs2)
        have HK2 := Lib.hid (HK.out.trans hk2)
        clear hs2 hk2
        go_wp2_with fail
        with_reducible refine HT2.out.mono ?_
        rintro e w3 ⟨rfl, hs3, hk3⟩
        have HS3 := Lib.hid hs3
        have HK3 := Lib.hid (HK2.out.trans hk3)
        clear hs3 hk3
        go_wp2_with fail
        go_roundg t3.length
        case measure => omega
        case rel =>
          refine ⟨n, t3, acc ++ l, rfl, by omega, by rw [List.length_append]; omega, HS3.out, HK3.out, ?_⟩
          unfold Hid
          rw [HE.out, HP.out, List.append_assoc]
theorem listT_good {ts : List Tok} {b : Bool} {l : List Adr} {t1 : List Tok} (h : itemsT itemT (ts.length + 1) ts = (true, t1, l)) : listT (ts, b) = if (t1.isEmpty && b) = true then some l else none := by
  unfold listT
  simp only [h]
  cases t1 <;> cases b <;> rfl
theorem listT_bad {ts : List Tok} {b : Bool} {l : List Adr} {t1 : List Tok} (h : itemsT itemT (ts.length + 1) ts = (false, t1, l)) : listT (ts, b) = none := by
  unfold listT
  simp only [h]
def listIs (o : Option (List Adr)) (w0 w : World) (v : Value) (b : Bool) : Prop :=
  match o with
  | some l => b = true ∧ w.ownsRow w0.heap.size 26 4 v l.length (adrCells l)
  | none => b = false ∧ v = .slice none 0 0
set_option maxRecDepth 100000 in
set_option maxHeartbeats 4000000 in
theorem list_any (s : ByteArray) (w : World) (hl : s.size ≤ 1000000000) :
    Calls Tryz.prog 8 #[.string s] w fun e w' => ∃ v b, e = .returned (.tuple #[v, .bool b]) ∧ listIs (listA s.data.toList) w w' v b ∧ Below w.heap.size w w' := by
  have HN := Lib.hid (fun B W h => next_any B s 0 .nilIface (.slice none 0 0) W h hl (Nat.zero_le _))
  have HI := Lib.hid (fun base B ts b W h hn => itemsI_any base B s ts b [] W h hl hn)
  have HE := Lib.hid (fun B ts b tv W h => ended_any B s ts b tv W h)
  go_enter Tryz.func8, Tryz.ntmps8
  go_wp2_with fail
  obtain ⟨W0, hW0⟩ : ∃ W0, W0 = w.alloc (.cells #[.string s, .int .i64 0, .nilIface, .slice none 0 0] 48) := ⟨_, rfl⟩
  have hb0 : Below w.heap.size w W0 := by rw [hW0]; exact (Below.refl _ _).alloc (Nat.le_refl _) _
  have hh : W0.heap[w.heap.size]? = some (.cells #[.string s, .int .i64 0, .nilIface, .slice none 0 0] 48 (0, 0)) := by rw [hW0]; exact heap_alloc_new w _
  have hR : Raw W0 w.heap.size s 0 .nilIface (.slice none 0 0) :=
    ⟨by simp [World.cell?, hh], by simp [World.cell?, hh], by simp [World.cell?, hh], by simp [World.cell?, hh], by simp [World.frozen?, hh], by simp [World.frozen?, hh], by simp [World.frozen?, hh]⟩
  rw [← hW0]
  obtain ⟨B, hB⟩ : ∃ B, B = w.heap.size := ⟨_, rfl⟩
  rw [← hB] at hR ⊢
  have HX := Lib.hid (HN.out B W0 hR)
  have HB0 := Lib.hid hb0
  have HBB := Lib.hid hB
  clear hW0 hb0 hh hR hB
  rcases hts : toksA s.data.toList with ⟨ts, b⟩
  have HLA : Hid (listA s.data.toList = listT (ts, b)) := by unfold Hid listA; rw [hts]
  rw [List.drop_zero, hts] at HX
  with_reducible refine HX.out.mono ?_
  rintro e w1 ⟨rfl, hr1, hg1⟩
  have hlen : ts.length ≤ 2000000000 := by have := wt_len ts; have hwt : wt ts ≤ 2 * s.size := hr1.wt; omega
  have HS1 : Hid (St w1 B B s ts b []) := ⟨_, hr1, World.ownsRow_nil _ _ _ _, by simp [Value.ownBlock], Nat.le_refl _⟩
  have HB1 : Hid (Below w.heap.size w w1) := by
    have h0 := HB0.out
    have e := HBB.out
    exact ⟨hg1.os.trans h0.os, hg1.tape.trans h0.tape, hg1.output.trans h0.output, Nat.le_trans h0.size hg1.size, fun k hk => (hg1.block k (Nat.lt_of_lt_of_le hk h0.size) (fun e2 => by have := Option.some.inj e2; omega)).trans (h0.block k hk)⟩
  have HI1 := Lib.hid (HI.out B B ts b w1 HS1.out (by simp; omega))
  unfold Does at HI1
  rcases hx : itemsT itemT (ts.length + 1) ts with ⟨b1, t1, l⟩
  rw [hx] at HI1
  clear hr1 hg1 HX hts
  cases b1 with
  | false =>
    have HP := Lib.hid (listT_bad (b := b) hx)
    clear hx
    go_wp2_with fail
    with_reducible refine HI1.out.mono ?_
    rintro e w2 ⟨rfl, hs2, hk2⟩
    have HB2 := Lib.hid (HB1.out.trans ((HS1.out.below hk2).mono (Nat.le_of_eq HBB.out.symm)))
    clear hs2 hk2
    go_wp2_with fail
    go_ret2
    refine ⟨_, _, rfl, ?_, HB2.out⟩
    rw [HLA.out, HP.out]
    exact ⟨rfl, rfl⟩
  | true =>
    have HP := Lib.hid (listT_good (b := b) hx)
    clear hx
    go_wp2_with fail
    with_reducible refine HI1.out.mono ?_
    rintro e w2 ⟨rfl, hs2, hk2⟩
    have HB2 := Lib.hid (HB1.out.trans ((HS1.out.below hk2).mono (Nat.le_of_eq HBB.out.symm)))
    obtain ⟨tv, hr2, ho2, hne2, _⟩ := hs2
    have HE2 := Lib.hid (HE.out B t1 b tv w2 hr2)
    have HR2 := Lib.hid hr2
    have HO2 := Lib.hid ho2
    clear hk2 hr2 ho2
    rcases Bool.eq_false_or_eq_true (t1.isEmpty && b) with hq | hq
    · rw [hq] at HE2 HP
      clear hq
      go_wp2_with fail
      with_reducible refine HE2.out.mono ?_
      rintro e w3 ⟨rfl, hb3⟩
      have HR3 := Lib.hid (HR2.out.below hb3)
      have c3 := HR3.out.c3
      have HO3 := Lib.hid (ownsRow_below HO2.out hb3)
      have HB3 := Lib.hid (HB2.out.trans (hb3.mono HB2.out.size))
      clear hb3
      go_wp2_with fail
      go_ret2
      refine ⟨_, _, rfl, ?_, HB3.out⟩
      rw [HLA.out, HP.out]
      refine ⟨rfl, ?_⟩
      rw [← HBB.out]
      exact HO3.out
    · rw [hq] at HE2 HP
      clear hq
      go_wp2_with fail
      with_reducible refine HE2.out.mono ?_
      rintro e w3 ⟨rfl, hb3⟩
      have HB3 := Lib.hid (HB2.out.trans (hb3.mono HB2.out.size))
      clear hb3
      go_wp2_with fail
      go_ret2
      refine ⟨_, _, rfl, ?_, HB3.out⟩
      rw [HLA.out, HP.out]
      exact ⟨rfl, rfl⟩
end Go.Proofs.YtjlcphofkepajaaGreat
