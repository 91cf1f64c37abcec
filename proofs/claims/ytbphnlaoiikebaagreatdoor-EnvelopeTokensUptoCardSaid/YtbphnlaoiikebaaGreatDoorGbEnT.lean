/- Layer 19 in plain words: the tokens of what is put, and that they are no more than its bytes. No program. -/
import Derived.Test.YtbphnlaoiikebaaGreatDoorGbEnM
namespace Go.Proofs.YtbphnlaoiikebaaGreatDoor
open Go Go.RowKit

theorem nstW_pos (s : List UInt8) (b : Bool) : 1 ≤ (nstW s b).length := by
  unfold nstW strW litT nilW
  split
  · split
    · simp
    · split <;> simp
  · simp
/-- A text that is read as tokens, which are one part. -/
def Prt (x : List UInt8) (m : Nat) : Prop := ∃ ts, Tk x ts ∧ Lv ts 1 ∧ ts.length ≤ m ∧ ts.length ≤ x.length
theorem prt_nst (s : List UInt8) (b : Bool) (h : s.length ≤ 4294967295) : Prt (nstW s b) 1 := by
  refine ⟨_, tk_nst s b h, ?_, Nat.le_refl _, nstW_pos s b⟩
  unfold nstT
  split
  · exact lv_one 2 _ (.inr rfl)
  · exact lv_one 1 _ (.inl rfl)
theorem prt_str (s : List UInt8) (h : s.length ≤ 4294967295) : Prt (strW s) 1 := prt_nst s true h
theorem prt_nil : Prt nilW 1 := prt_nst [] false (by simp)
/-- Parts with blanks between. -/
theorem join_prts : ∀ (ps : List (List UInt8)) (p : List UInt8) (M : Nat), (∀ x ∈ p :: ps, Prt x M) → ∃ ts, Tk (Lib.join (p :: ps) [32]) ts ∧ Lv ts (ps.length + 1) ∧ ts.length ≤ (M + 1) * (ps.length + 1) ∧ ts.length ≤ (Lib.join (p :: ps) [32]).length
  | [], p, M, h => by
    obtain ⟨ts, h1, h2, h3, h4⟩ := h p (List.mem_singleton.2 rfl)
    refine ⟨ts, by rw [Lib.join_one]; exact h1, h2, ?_, by rw [Lib.join_one]; exact h4⟩
    simp
    omega
  | q :: ps, p, M, h => by
    obtain ⟨ts, h1, h2, h3, h4⟩ := h p List.mem_cons_self
    obtain ⟨us, g1, g2, g3, g4⟩ := join_prts ps q M (fun x hx => h x (List.mem_cons_of_mem _ hx))
    have e : Lib.join (p :: q :: ps) [32] = p ++ 32 :: Lib.join (q :: ps) [32] := by
      rw [Lib.join_cons, Lib.join_cons]
      simp [Lib.joinTail]
    refine ⟨ts ++ (5, []) :: us, by rw [e]; exact h1.blank g1, ?_, ?_, by
      rw [e, List.length_append, List.length_append, List.length_cons, List.length_cons]
      omega⟩
    · have := h2.app (lv_blank.app g2)
      rw [List.length_cons]
      rw [show ps.length + 1 + 1 = 1 + (0 + (ps.length + 1)) by omega]
      exact this
    · rw [List.length_append, List.length_cons, List.length_cons, Nat.mul_add (M + 1) (ps.length + 1) 1]
      omega
theorem row_prts (ps : List (List UInt8)) (p : List UInt8) (M : Nat) (h : ∀ x ∈ p :: ps, Prt x M) : ∃ ts, TkA (rowW (p :: ps)) ((3, []) :: (ts ++ [(4, [])])) ∧ Lv ts (ps.length + 1) ∧ ts.length ≤ (M + 1) * (ps.length + 1) ∧ ts.length + 2 ≤ (rowW (p :: ps)).length := by
  obtain ⟨ts, h1, h2, h3, h4⟩ := join_prts ps p M h
  refine ⟨ts, h1.close.opened, h2, h3, ?_⟩
  unfold rowW
  simp only [List.length_cons, List.length_append, List.length_nil]
  omega
theorem adr_tks (a : Adx) (h1 : a.name.length ≤ 4294967295) (h2 : a.loc.length ≤ 4294967295) (h3 : a.host.length ≤ 4294967295) : ∃ ts, TkA (adrW a) ts ∧ Lv ts 1 ∧ ts.length ≤ 10 ∧ ts.length ≤ (adrW a).length := by
  obtain ⟨p, ps, hps, hl, hall⟩ : ∃ p ps, adrP a = p :: ps ∧ ps.length = 3 ∧ ∀ x ∈ p :: ps, Prt x 1 := by
    have n1 := prt_nst a.name (neB a.name) h1
    have n2 := prt_str a.loc h2
    have n3 := prt_nst a.host (neB a.host) h3
    have n4 := prt_str a.name h1
    have n5 := prt_nil
    unfold adrP
    split
    · refine ⟨_, _, rfl, rfl, fun x hx => ?_⟩
      simp only [List.mem_cons, List.not_mem_nil, or_false] at hx
      rcases hx with rfl | rfl | rfl | rfl <;> assumption
    · split
      · refine ⟨_, _, rfl, rfl, fun x hx => ?_⟩
        simp only [List.mem_cons, List.not_mem_nil, or_false] at hx
        rcases hx with rfl | rfl | rfl | rfl <;> assumption
      · refine ⟨_, _, rfl, rfl, fun x hx => ?_⟩
        simp only [List.mem_cons, List.not_mem_nil, or_false] at hx
        rcases hx with rfl | rfl | rfl | rfl <;> assumption
  obtain ⟨ts, t1, t2, t3, t4⟩ := row_prts ps p 1 hall
  refine ⟨_, by unfold adrW; rw [hps]; exact t1, lv_row t2, ?_, ?_⟩
  · rw [hl] at t3
    simp
    omega
  · unfold adrW
    rw [hps]
    simp only [List.length_cons, List.length_append, List.length_nil]
    omega
theorem adrs_tks : ∀ (l : List Adx), smallX l 4294967295 → ∃ ts, TkA (l.flatMap adrW) ts ∧ Lv ts l.length ∧ ts.length ≤ 10 * l.length ∧ ts.length ≤ (l.flatMap adrW).length
  | [], _ => ⟨[], fun q g => by simp, lv_nil, by simp, by simp⟩
  | a :: r, h => by
    obtain ⟨us, u1, u2, u3, u4⟩ := adrs_tks r (fun b hb => h b (List.mem_cons_of_mem _ hb))
    obtain ⟨h1, h2, h3⟩ := h a List.mem_cons_self
    obtain ⟨ts, t1, t2, t3, t4⟩ := adr_tks a h1 h2 h3
    refine ⟨ts ++ us, by rw [List.flatMap_cons]; exact t1.app u1, ?_, ?_, by
      rw [List.flatMap_cons, List.length_append, List.length_append]
      omega⟩
    · have := t2.app u2
      rw [List.length_cons, Nat.add_comm]
      exact this
    · rw [List.length_append, List.length_cons]
      omega
theorem prt_list (l : List Adx) (N : Nat) (hl : l.length ≤ N) (h : smallX l 4294967295) : Prt (listW l) (10 * N + 2) := by
  unfold listW
  split
  · obtain ⟨ts, h1, h2, h3, h4⟩ := prt_nil
    exact ⟨ts, h1, h2, by omega, h4⟩
  · obtain ⟨ts, t1, t2, t3, t4⟩ := adrs_tks l h
    refine ⟨_, (t1.tk.close.opened).tk, lv_row t2, ?_, ?_⟩
    · simp
      omega
    · simp only [List.length_cons, List.length_append, List.length_nil]
      omega
/-- The tokens of what is put: brackets around ten parts. -/
theorem put_tks (e : Env) (N : Nat) (hd : e.date.length ≤ 4294967295) (hs : e.subj.length ≤ 4294967295) (hr : e.reply.length ≤ 4294967295) (hi : e.id.length ≤ 4294967295)
    (s0 : smallX e.l0 4294967295) (s1 : smallX e.l1 4294967295) (s2 : smallX e.l2 4294967295) (s3 : smallX e.l3 4294967295) (s4 : smallX e.l4 4294967295) (s5 : smallX e.l5 4294967295)
    (n0 : e.l0.length ≤ N) (n1 : e.l1.length ≤ N) (n2 : e.l2.length ≤ N) (n3 : e.l3.length ≤ N) (n4 : e.l4.length ≤ N) (n5 : e.l5.length ≤ N) :
    ∃ ts, Lv ts 10 ∧ ts.length ≤ (10 * N + 3) * 10 ∧ ts.length + 2 ≤ (putE e).length ∧ ∀ g, ts.length + 3 ≤ g → toksW g (putE e) = some ((3, []) :: (ts ++ [(4, [])])) := by
  have up : ∀ {x : List UInt8}, Prt x 1 → Prt x (10 * N + 2) := fun ⟨ts, h1, h2, h3, h4⟩ => ⟨ts, h1, h2, by omega, h4⟩
  have q0 := up (prt_nst e.date e.h0 hd)
  have q1 := up (prt_nst e.subj e.h1 hs)
  have q2 := prt_list e.l0 N n0 s0
  have q3 := prt_list e.l1 N n1 s1
  have q4 := prt_list e.l2 N n2 s2
  have q5 := prt_list e.l3 N n3 s3
  have q6 := prt_list e.l4 N n4 s4
  have q7 := prt_list e.l5 N n5 s5
  have q8 := up (prt_nst e.reply e.h2 hr)
  have q9 := up (prt_nst e.id e.h3 hi)
  obtain ⟨ts, t1, t2, t3, t4⟩ := row_prts [nstW e.subj e.h1, listW e.l0, listW e.l1, listW e.l2, listW e.l3, listW e.l4, listW e.l5, nstW e.reply e.h2, nstW e.id e.h3] (nstW e.date e.h0) (10 * N + 2) (by
    intro x hx
    simp only [List.mem_cons, List.not_mem_nil, or_false] at hx
    rcases hx with rfl | rfl | rfl | rfl | rfl | rfl | rfl | rfl | rfl | rfl <;> assumption)
  refine ⟨ts, t2, t3, t4, fun g hg => ?_⟩
  obtain ⟨k, rfl⟩ : ∃ k, g = (k + 1) + ((3, ([] : List UInt8)) :: (ts ++ [(4, ([] : List UInt8))])).length := ⟨g - (ts.length + 3), by simp; omega⟩
  have := t1 [] (k + 1)
  rw [List.append_nil, toks_nil] at this
  unfold putE envP
  rw [this]
  simp
theorem putE_size (e : Env) (hd : e.date.length ≤ 1048576) (hs : e.subj.length ≤ 1048576) (hr : e.reply.length ≤ 1048576) (hi : e.id.length ≤ 1048576)
    (s0 : smallX e.l0 1048576) (s1 : smallX e.l1 1048576) (s2 : smallX e.l2 1048576) (s3 : smallX e.l3 1048576) (s4 : smallX e.l4 1048576) (s5 : smallX e.l5 1048576)
    (hn : e.l0.length + e.l1.length + e.l2.length + e.l3.length + e.l4.length + e.l5.length ≤ 30) : (putE e).length ≤ 300000000 := by
  have q0 := nstW_size e.date e.h0 (by omega)
  have q1 := nstW_size e.subj e.h1 (by omega)
  have q2 := nstW_size e.reply e.h2 (by omega)
  have q3 := nstW_size e.id e.h3 (by omega)
  have p0 := listW_size 1048576 (by decide) e.l0 s0
  have p1 := listW_size 1048576 (by decide) e.l1 s1
  have p2 := listW_size 1048576 (by decide) e.l2 s2
  have p3 := listW_size 1048576 (by decide) e.l3 s3
  have p4 := listW_size 1048576 (by decide) e.l4 s4
  have p5 := listW_size 1048576 (by decide) e.l5 s5
  have e1 : (putE e).length = (nstW e.date e.h0).length + (nstW e.subj e.h1).length + (listW e.l0).length + (listW e.l1).length + (listW e.l2).length + (listW e.l3).length + (listW e.l4).length + (listW e.l5).length + (nstW e.reply e.h2).length + (nstW e.id e.h3).length + 11 := by
    unfold putE envP rowW
    rw [Lib.join_cons]
    simp [Lib.joinTail]
    omega
  omega
end Go.Proofs.YtbphnlaoiikebaaGreatDoor
