/- Contracts of package section: cutText, Put. -/
import Derived.Test.YthcleaflhljdlaaGreatDoorSeP
namespace Go.Proofs.YthcleaflhljdlaaGreatDoor
open Go Go.RowKit

theorem digT (n : Int) (h0 : 0 ≤ n) (h1 : n ≤ 4294967295) : ∃ t : List UInt8, t.length ≤ 30 ∧ Lib.itoa n = t ∧ ∀ W, tab W → Calls Tryz.prog 41 #[.int .i64 n] W fun e w' => e = .returned (.string ⟨t.toArray⟩) ∧ Below W.heap.size W w' :=
  ⟨Lib.itoa n, itoa_len n h0 h1, rfl, fun W ht => digits_any n (by omega) (by omega) W ht⟩
set_option maxRecDepth 100000 in
set_option maxHeartbeats 4000000 in
theorem cutText_any (s : Spc) (answer : Bool) (a1 a2 : Option Addr) (c1 c2 : Nat) (w : World) (hc : cutOk s = true) (he : tab w) :
    Calls Tryz.prog 28 #[spV s a1 a2 c1 c2, .bool answer] w fun e w' => e = .returned (strV (cutT s answer)) ∧ Below w.heap.size w w' := by
  obtain ⟨p, q, ns, c, x, y⟩ := s
  unfold spV
  simp only
  have HEn := Lib.hid (fun W (hb : Below w.heap.size w W) => he.below hb)
  have HB0 : Hid (Below w.heap.size w (w.alloc (boxO p q ns c x y a1 a2 c1 c2))) := (Below.refl _ _).alloc (Nat.le_refl _) _
  have hbx : Box (w.alloc (boxO p q ns c x y a1 a2 c1 c2)) w.heap.size (.slice a1 p.length c1) q (.slice a2 ns.length c2) c x y := heap_alloc_new w _
  unfold boxO at HB0 hbx
  obtain ⟨W1, hW1⟩ : ∃ W1, W1 = w.alloc (.cells #[.slice a1 p.length c1, .int .i64 q, .slice a2 ns.length c2, .bool c, .int .i64 x, .int .i64 y] 26) := ⟨_, rfl⟩
  rw [← hW1] at HB0 hbx
  have HW1 := Lib.hid hW1.symm
  obtain ⟨R, hR⟩ : ∃ R, R = w.heap.size := ⟨_, rfl⟩
  rw [← hR] at hbx
  have HR := Lib.hid hR
  obtain ⟨k0, k1, k2, k3, k4, k5⟩ := hbx.c
  have K4 := BW.cell k4
  have K5 := BW.cell k5
  clear he hbx hW1 hR
  cases c with
  | false =>
    go_enter Tryz.func28, Tryz.ntmps28
    go_wp2_with fail
    go_ret
    rw [HW1.out]
    exact ⟨rfl, HB0.out⟩
  | true =>
    have hxy : numOk 0 x = true ∧ numOk 1 y = true := by simpa [cutOk] using hc
    rw [numOk_iff, numOk_iff] at hxy
    obtain ⟨tx, hx1, hx2, hx3⟩ := digT x hxy.1.1 hxy.1.2
    obtain ⟨ty, hy1, hy2, hy3⟩ := digT y (by omega) hxy.2.2
    have HDx := Lib.hid hx3
    have HDy := Lib.hid hy3
    have HBw : Hid (∀ z : BW W1, tab z.v) := fun z => HEn.out _ (HB0.out.trans (z.h.mono HB0.out.size))
    cases answer with
    | true =>
      have HE : Hid (cutT ⟨p, q, ns, true, x, y⟩ true = [60] ++ (tx ++ [62])) := by
        unfold Hid cutT
        simp only
        rw [hx2]
        rfl
      have HDb := Lib.hid (HDx.out W1 (HEn.out _ HB0.out))
      clear hc hxy hx2 hx3 hy2 hy3
      go_enter Tryz.func28, Tryz.ntmps28
      go_wp2_with fail
      rw [HW1.out]
      with_reducible refine HDb.out.mono ?_
      rintro e w2 ⟨rfl, hb2⟩
      have HB2 := Lib.hid (HB0.out.trans (hb2.mono HB0.out.size))
      clear hb2
      go_wp2_with fail
      go_ret
      rw [HE.out]
      unfold strV
      exact ⟨ret_str (bytes_eq (by simp)), HB2.out⟩
    | false =>
      have HE : Hid (cutT ⟨p, q, ns, true, x, y⟩ false = [60] ++ (tx ++ ([46] ++ (ty ++ [62])))) := by
        unfold Hid cutT
        simp only
        rw [hx2, hy2]
        rfl
      clear hc hxy hx2 hx3 hy2 hy3
      go_enter Tryz.func28, Tryz.ntmps28
      go_wp2_with fail
      rw [HW1.out, ← HR.out]
      refine wp_region_below (by kernel_rfl) (by kernel_rfl) ?_
      repeat (go_big_quiet_step (first | (go_at_call 41; first | (with_reducible exact BW.calls (HDx.out _ (HBw.out _))) | (with_reducible exact BW.calls (HDy.out _ (HBw.out _))))))
      refine wpQuiet_nil ?_
      rintro W2 ⟨⟨_, hb2⟩, rfl⟩
      have HB2 := Lib.hid (HB0.out.trans (hb2.mono HB0.out.size))
      clear hb2
      go_wp2_with fail
      go_ret
      rw [HE.out]
      unfold strV
      exact ⟨ret_str (bytes_eq (by simp)), HB2.out⟩
theorem nmsT_len (ns : List (List UInt8)) (hn : ∀ a ∈ ns, a.length ≤ 1000000000) (hl : ns.length ≤ 100) : (nmsT ns).length ≤ 1000000000000 := by
  unfold nmsT
  split
  · simp
  · have h1 := join_len [32] (by decide) (ns.map nameT)
    have h2 := wsW_le 2000000002 (ns.map nameT) (fun a ha => by
      obtain ⟨c, hc, rfl⟩ := List.mem_map.1 ha
      have h1 := nameT_len c
      have h2 := hn c hc
      omega)
    have h3 : (ns.map nameT).length * (2000000002 + 1) ≤ 100 * (2000000002 + 1) := Nat.mul_le_mul_right _ (by simpa using hl)
    simp only [List.length_append, List.length_cons, List.length_nil]
    omega
theorem askT_len (s : Spc) (hp : ∀ n ∈ s.path, 1 ≤ n ∧ n ≤ 4294967295) (hpl : s.path.length ≤ 64) (h5 : s.what ≤ 5) : (askT s).length ≤ 1000000 := by
  have h0 : ∀ a ∈ (s.path.map Lib.itoa ++ (if s.what = 0 then [] else [wordL s.what.toNat])), a.length ≤ 30 := by
    intro a ha
    rcases List.mem_append.1 ha with h | h
    · obtain ⟨n, hn, rfl⟩ := List.mem_map.1 h
      have := hp n hn
      exact itoa_len n (by omega) this.2
    · split at h
      · cases h
      · obtain rfl := List.mem_singleton.1 h
        rcases (by omega : s.what.toNat = 0 ∨ s.what.toNat = 1 ∨ s.what.toNat = 2 ∨ s.what.toNat = 3 ∨ s.what.toNat = 4 ∨ s.what.toNat = 5) with e | e | e | e | e | e <;> rw [e] <;> decide
  have h1 := join_len [46] (by decide) (s.path.map Lib.itoa ++ (if s.what = 0 then [] else [wordL s.what.toNat]))
  have h2 := wsW_le 30 _ h0
  have h3 : (s.path.map Lib.itoa ++ (if s.what = 0 then [] else [wordL s.what.toNat])).length ≤ 65 := by
    rw [List.length_append, List.length_map]
    split <;> simp <;> omega
  have h4 := Nat.mul_le_mul_right (30 + 1) h3
  unfold askT
  omega
theorem cutT_len (s : Spc) (answer : Bool) (hc : cutOk s = true) : (cutT s answer).length ≤ 100 := by
  unfold cutT
  split
  · simp
  · next h =>
    have h1 : s.cut = true := by simpa using h
    have hxy : numOk 0 s.frm = true ∧ numOk 1 s.many = true := by simpa [cutOk, h1] using hc
    rw [numOk_iff, numOk_iff] at hxy
    have g1 := itoa_len s.frm hxy.1.1 hxy.1.2
    have g2 := itoa_len s.many (by omega) hxy.2.2
    split <;> simp <;> omega
theorem checkS_parts {s : Spc} (h : checkS s = true) : (∀ n ∈ s.path, 1 ≤ n ∧ n ≤ 4294967295) ∧ s.path.length ≤ 64 ∧ 0 ≤ s.what ∧ s.what ≤ 5 ∧ s.names.length ≤ 100 ∧ cutOk s = true := by
  unfold checkS at h
  rw [Bool.and_eq_true, Bool.and_eq_true] at h
  obtain ⟨h1, h2, h3⟩ := h
  unfold pathOk at h1
  rw [Bool.and_eq_true, decide_eq_true_eq, List.all_eq_true] at h1
  refine ⟨fun n hn => (numOk_iff 1 n).1 (h1.2 n hn), h1.1, ?_, ?_, ?_, h3⟩
  all_goals
    unfold whatOk at h2
    repeat' split at h2
  any_goals omega
  all_goals first | (cases h2; done) | skip
  all_goals first
    | (have e : s.names = [] := by simpa using h2
       rw [e]; simp; done)
    | (unfold namesOk at h2
       rw [Bool.and_eq_true, Bool.and_eq_true, decide_eq_true_eq, decide_eq_true_eq] at h2
       exact h2.2.1)
    | (rw [Bool.and_eq_true] at h2
       have e : s.names = [] := by simpa using h2.1
       rw [e]; simp)
end Go.Proofs.YthcleaflhljdlaaGreatDoor
