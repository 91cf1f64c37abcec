/- Layer 20 in plain words: how long what a value tells is. No program. -/
import Derived.Test.YtkmgflnmffdhjaaGreatDoorGbEnE
import Derived.Test.YtkmgflnmffdhjaaGreatDoorGbParR
import Derived.Test.YtkmgflnmffdhjaaGreatDoorGbParU
import Derived.Test.YtkmgflnmffdhjaaGreatDoorGbAdM
import Derived.Test.YtkmgflnmffdhjaaGreatDoorGbEnF
import Derived.Test.YtkmgflnmffdhjaaGreatDoorGbEnM
namespace Go.Proofs.YtkmgflnmffdhjaaGreatDoor
open Go Go.RowKit

theorem sk_short (l : List UInt8) : (sk l).length ≤ l.length := skL_le l false 0
theorem tokenL_one {l : List UInt8} (_ : (tokenL l).1 ≠ []) : (tokenL l).2.length + (tokenL l).1.length ≤ l.length := by
  have h1 := sk_short l
  have h2 : (tokL (sk l)).length ≤ (sk l).length := (List.takeWhile_sublist _).length_le
  show ((sk l).drop (tokL (sk l)).length).length + (tokL (sk l)).length ≤ _
  rw [List.length_drop]
  omega
theorem valueL_one {l : List UInt8} {p : List UInt8 × List UInt8} (h : valueL l = some p) : p.2.length + 1 ≤ l.length := by
  unfold valueL at h
  have hl := sk_short l
  split at h
  · next c r e =>
    rw [e] at hl
    rw [List.length_cons] at hl
    split at h
    · have := unqL_len _ _ _ _ h
      omega
    · split at h
      · cases h
      · next hne =>
        cases h
        have h3 : (tokenL l).1 ≠ [] := hne
        have := tokenL_one h3
        have := List.length_pos_iff.2 h3
        omega
  · cases h
theorem parL_four {l : List UInt8} {p : Prm} {r : List UInt8} (h : parL l = some (p, r)) : r.length + 4 ≤ l.length := by
  unfold parL at h
  split at h
  · cases h
  · next l1 e1 =>
    have h1 := takeL_len e1
    split at h
    · cases h
    · next hne =>
      have h0 := tokenL_one hne
      have h00 := List.length_pos_iff.2 hne
      split at h
      · cases h
      · next l2 e2 =>
        have h2 := takeL_len e2
        split at h
        · cases h
        · next v r' e3 =>
          have h4 : r'.length + 1 ≤ l2.length := valueL_one e3
          cases h
          omega
theorem parsL_cnt : ∀ (n : Nat) (l : List UInt8), 4 * (parsL n l).length ≤ l.length
  | 0, l => by simp [parsL]
  | n + 1, l => by
    unfold parsL
    cases hp : parL l with
    | none => simp
    | some x =>
      obtain ⟨p, r⟩ := x
      have h1 := parL_four hp
      have h2 := parsL_cnt n r
      simp only [List.length_cons]
      omega
theorem joinA_cnt (ps : List Prm) : ∀ (t : List Prm) (pre : List (List UInt8)), (joinA ps pre t).length ≤ t.length
  | [], pre => by simp [joinA]
  | p :: t, pre => by
    have ih := joinA_cnt ps t (baseL p.1 :: pre)
    unfold joinA
    split
    · rw [List.length_cons]; omega
    · split
      · rw [List.length_cons, List.length_cons]; omega
      · rw [List.length_cons]; omega
theorem getV_le {ps : List Prm} {M : Nat} (h : ∀ p ∈ ps, p.2.length ≤ M) {nm v : List UInt8} (hv : getV ps nm = some v) : v.length ≤ M := by
  unfold getV at hv
  obtain ⟨p, hp, rfl⟩ := Option.map_eq_some_iff.1 hv
  exact h p (List.mem_of_find?_eq_some hp)
theorem pieceL_le {ps : List Prm} {M : Nat} (h : ∀ p ∈ ps, p.2.length ≤ M) {b v : List UInt8} {n : Nat} (hv : pieceL ps b n = some v) : v.length ≤ M := by
  unfold pieceL at hv
  split at hv
  · next u hu =>
    cases hv
    exact getV_le h hu
  · obtain ⟨u, hu, rfl⟩ := Option.map_eq_some_iff.1 hv
    have h1 := getV_le h hu
    have h2 := bareL_len u
    split
    · exact Nat.le_trans (opn_len _) (by omega)
    · exact Nat.le_trans (opn_len _) h1
theorem pcsL_le {ps : List Prm} {M : Nat} (h : ∀ p ∈ ps, p.2.length ≤ M) (b : List UInt8) : ∀ (f n : Nat), (pcsL ps b f n).length ≤ f * M
  | 0, n => by simp [pcsL]
  | f + 1, n => by
    unfold pcsL
    cases hp : pieceL ps b n with
    | none => simp
    | some v =>
      have h1 := pieceL_le h hp
      have h2 := pcsL_le h b f (n + 1)
      simp only [List.length_append]
      rw [Nat.add_mul, Nat.one_mul]
      omega
theorem toldL_le {ps : List Prm} {M : Nat} (h : ∀ p ∈ ps, p.2.length ≤ M) {b v : List UInt8} (hv : toldL ps b = some v) : v.length ≤ (ps.length + 1) * M := by
  have hM : M ≤ (ps.length + 1) * M := by rw [Nat.add_mul, Nat.one_mul]; omega
  unfold toldL at hv
  split at hv
  · next u hu =>
    cases hv
    exact Nat.le_trans (getV_le h hu) hM
  · split at hv
    · next u hu =>
      cases hv
      have h1 := getV_le h hu
      have h2 := bareL_len u
      have h3 := opn_len (bareL u)
      omega
    · split at hv
      · cases hv
        exact pcsL_le h b _ 0
      · cases hv
theorem joinA_val {ps : List Prm} {M : Nat} (h : ∀ p ∈ ps, p.2.length ≤ M) : ∀ (t : List Prm) (pre : List (List UInt8)), ∀ q ∈ joinA ps pre t, q.2.length ≤ (ps.length + 1) * M
  | [], pre => fun q hq => by simp [joinA] at hq
  | p :: t, pre => fun q hq => by
    have ih := joinA_val h t (baseL p.1 :: pre)
    unfold joinA at hq
    split at hq
    · exact ih q hq
    · split at hq
      · next v hv =>
        rcases List.mem_cons.1 hq with rfl | hq
        · exact toldL_le h hv
        · exact ih q hq
      · exact ih q hq
/-- All that a value tells: no more than so much. -/
structure shortV (V : Val) (N : Nat) : Prop where
  ty : V.type.length ≤ N
  sb : V.sub.length ≤ N
  ct : 4 * V.params.length ≤ N
  nm : ∀ q ∈ V.params, q.1.length ≤ N
  vl : ∀ q ∈ V.params, q.2.length ≤ (N / 4 + 1) * N
theorem joinL_vals (n : Nat) (l : List UInt8) (N : Nat) (hN : l.length ≤ N) : 4 * (joinL (parsL n l)).length ≤ N ∧ ∀ q ∈ joinL (parsL n l), q.2.length ≤ (N / 4 + 1) * N := by
  have h1 := parsL_cnt n l
  have h2 := joinA_cnt (parsL n l) (parsL n l) []
  refine ⟨by unfold joinL; omega, fun q hq => ?_⟩
  have h3 := joinA_val (M := N) (fun p hp => Nat.le_trans (parsL_small n l p hp).2 hN) (parsL n l) [] q hq
  exact Nat.le_trans h3 (Nat.mul_le_mul_right _ (by omega))
theorem parse_vals {l : List UInt8} {two : Bool} {V : Val} (h : parseL l two = some V) : shortV V l.length ∧ V.type ≠ [] ∧ (two = true → V.sub ≠ []) := by
  have hn := parse_short h
  have fl : ∀ x : List UInt8, (foldS x).length = x.length := fun x => by simp [foldS]
  unfold parseL at h
  split at h
  · cases h
  · next hne =>
    have h1 := tokenL_one hne
    have tne : foldS (tokenL l).1 ≠ [] := by
      intro e
      have := congrArg List.length e
      rw [fl] at this
      exact hne (List.eq_nil_of_length_eq_zero this)
    cases two with
    | false =>
      simp only [Bool.false_eq_true, if_false] at h
      cases h
      have h2 := joinL_vals (tokenL l).2.length (tokenL l).2 l.length (by omega)
      exact ⟨⟨by rw [fl]; omega, Nat.zero_le _, h2.1, hn, h2.2⟩, tne, fun e => by cases e⟩
    | true =>
      simp only [if_true] at h
      split at h
      · cases h
      · next u r hs =>
        cases h
        unfold subL at hs
        split at hs
        · cases hs
        · next r0 h0 =>
          have h3 := takeL_rest h0
          split at hs
          · cases hs
          · next hne2 =>
            have h4 := tokenL_one hne2
            cases hs
            have h2 := joinL_vals (tokenL r0).2.length (tokenL r0).2 l.length (by omega)
            refine ⟨⟨by rw [fl]; omega, by rw [fl]; omega, h2.1, hn, h2.2⟩, tne, fun _ e => ?_⟩
            have := congrArg List.length e
            rw [fl] at this
            exact hne2 (List.eq_nil_of_length_eq_zero this)
end Go.Proofs.YtkmgflnmffdhjaaGreatDoor

/- How long all that the addresses of a text say may be: no more than twice the text. No program. -/
namespace Go.Proofs.YtkmgflnmffdhjaaGreatDoor
open Go Go.RowKit

def aw (a : Adr) : Nat := a.name.length + a.loc.length + a.host.length + 1
def awS (l : List Adr) : Nat := (l.map aw).sum
theorem awS_nil : awS [] = 0 := rfl
theorem awS_cons (a : Adr) (l : List Adr) : awS (a :: l) = aw a + awS l := by simp [awS]
theorem awS_app (l m : List Adr) : awS (l ++ m) = awS l + awS m := by simp [awS]
theorem takesT_wt (c : UInt8) (ts : List Tok) : wt (takesT c ts).2 + (if (takesT c ts).1 = true then 1 else 0) = wt ts := by
  cases ts with
  | nil => rfl
  | cons t ts =>
    cases t with
    | wrd w => simp [takesT]
    | sgn d =>
      rw [wt_cons]
      by_cases h : d = c
      · simp [takesT, h, tokWA]
        omega
      · simp [takesT, h, wt_cons]
theorem wordT_wt (ts : List Tok) : wt (wordT ts).2 + (match (wordT ts).1 with | some w => w.length + 1 | none => 0) = wt ts := by
  cases ts with
  | nil => rfl
  | cons t ts =>
    cases t with
    | wrd w =>
      show wt ts + (w.length + 1) = _
      rw [wt_cons]
      simp [tokWA]
      omega
    | sgn d => rfl
theorem wayL_wt : ∀ (n : Nat) (ts : List Tok), wt (wayL n ts).2 ≤ wt ts := by
  intro n
  induction n with
  | zero => intro ts; exact Nat.le_refl _
  | succ n ih =>
    intro ts
    have h0 := wordT_wt ts
    unfold wayL
    split
    · next t1 e => rw [e] at h0; simp at h0; simp; omega
    · next v t1 e =>
      rw [e] at h0
      simp at h0
      have h1 := takesT_wt 44 t1
      have h2 := takesT_wt 64 (takesT 44 t1).2
      split
      · next t2 e2 =>
        rw [e2] at h2
        have := ih t2
        simp at h2
        omega
      · next t2 e2 =>
        rw [e2] at h2
        have := takesT_wt 58 t2
        simp at h2
        omega
theorem wayT_wt (ts : List Tok) : wt (wayT ts).2 ≤ wt ts := by
  unfold wayT
  have h := takesT_wt 64 ts
  split
  · next t1 e => rw [e] at h; simp at h; simp; omega
  · next t1 e =>
    rw [e] at h
    simp at h
    have := wayL_wt (t1.length + 1) t1
    omega
theorem hostT_wt (ts : List Tok) : (hostT ts).1.length + wt (hostT ts).2.2 ≤ wt ts := by
  unfold hostT
  have h := takesT_wt 64 ts
  split
  · next t1 e => rw [e] at h; simp at h; simp; omega
  · next t1 e =>
    rw [e] at h
    have h1 := wordT_wt t1
    simp at h
    split
    · next v t2 e2 => rw [e2] at h1; simp at h1; simp; omega
    · next t2 e2 => rw [e2] at h1; simp at h1; simp; omega
theorem join0_len : ∀ (ws : List (List UInt8)), (Lib.join ws []).length + ws.length = wsW ws
  | [] => rfl
  | [x] => by rw [Lib.join_one]; simp [wsW]
  | x :: y :: r => by
    have ih := join0_len (y :: r)
    have e : Lib.join (x :: y :: r) [] = x ++ Lib.join (y :: r) [] := by
      rw [Lib.join_cons, Lib.join_cons]
      simp [Lib.joinTail]
    rw [e, wsW_cons, ← ih, List.length_append]
    simp only [List.length_cons]
    omega
theorem placeT_wt {name : List UInt8} {ws : List (List UInt8)} {ts t : List Tok} {l : List Adr} (h : placeT name ws ts = (true, t, l)) : awS l + wt t ≤ name.length + wsW ws + wt ts := by
  unfold placeT at h
  injection h with h1 h2
  injection h2 with h2 h3
  have h4 := hostT_wt ts
  have h5 := join0_len ws
  have h6 : ws ≠ [] := by
    rintro rfl
    simp at h1
  have h7 := List.length_pos_iff.2 h6
  subst h2 h3
  rw [awS_cons, awS_nil]
  unfold aw
  simp only
  omega
theorem boxT_wt {ws : List (List UInt8)} {ts t : List Tok} {l : List Adr} (h : boxT ws ts = (true, t, l)) : awS l + wt t ≤ wsW ws + wt ts := by
  unfold boxT at h
  have h0 := takesT_wt 60 ts
  split at h
  · next t1 e =>
    rw [e] at h0
    simp at h0
    split at h
    · injection h with _ h2
      injection h2 with h2 h3
      subst h2 h3
      rw [awS_nil]
      omega
    · have := placeT_wt h
      simp at this
      omega
  · next t1 e =>
    rw [e] at h0
    simp at h0
    have h1 := wayT_wt t1
    split at h
    · injection h with h2 _
      cases h2
    · next t2 e2 =>
      rw [e2] at h1
      simp at h1
      have h2 := wordsT_wt t2
      have hn := join_len ws [32] (by simp)
      split at h
      · injection h with h3 _
        cases h3
      · next t3 m e3 =>
        have h3 := placeT_wt e3
        have h4 := takesT_wt 62 t3
        injection h with _ h5
        injection h5 with h5 h6
        subst h5 h6
        omega
def FairW (item : List Tok → Res) : Prop := ∀ ts t l, item ts = (true, t, l) → awS l + wt t ≤ wt ts
theorem itemsT_wt {item : List Tok → Res} (hf : FairW item) : ∀ n, FairW (itemsT item n) := by
  intro n
  induction n with
  | zero =>
    intro ts t l h
    unfold itemsT at h
    injection h with h _
    cases h
  | succ n ih =>
    intro ts t l h
    rcases e : item ts with ⟨b, t1, m⟩
    cases b
    · rw [itemsT_bad e] at h
      injection h with h _
      cases h
    · have h1 := hf _ _ _ e
      have h2 := takesT_wt 44 t1
      rcases e2 : takesT 44 t1 with ⟨b, t2⟩
      rw [e2] at h2
      cases b
      · rw [itemsT_last e e2] at h
        injection h with _ h3
        injection h3 with h3 h4
        subst h3 h4
        simp at h2
        omega
      · rw [itemsT_more e e2] at h
        injection h with g1 h3
        injection h3 with h3 h4
        have h5 := ih t2 _ _ (by
          show itemsT item n t2 = (true, (itemsT item n t2).2.1, (itemsT item n t2).2.2)
          rw [← g1])
        simp at h2
        rw [← h3, ← h4, awS_app]
        omega
theorem wboxT_wt : FairW wboxT := fun ts t l h => by
  have h1 := boxT_wt (show boxT (wordsT ts).1 (wordsT ts).2 = (true, t, l) from h)
  have h2 := wordsT_wt ts
  omega
theorem groupT_wt {name : List (List UInt8)} {ts t : List Tok} {l : List Adr} (h : groupT name ts = (true, t, l)) : awS l + wt t ≤ wsW name + 1 + wt ts := by
  unfold groupT at h
  have hn := join_len name [32] (by simp)
  split at h
  · injection h with h1 _
    cases h1
  · next t1 m e =>
    have h1 := itemsT_wt wboxT_wt _ _ _ _ e
    have h2 := takesT_wt 59 t1
    injection h with g1 h3
    injection h3 with h3 h4
    rw [if_pos g1] at h2
    subst h3 h4
    simp only [List.cons_append, awS_cons, awS_app, awS_nil]
    unfold aw
    simp only [List.length_nil]
    omega
theorem itemT_wt : FairW itemT := fun ts t l h => by
  have h0 := wordsT_wt ts
  have h1 := takesT_wt 58 (wordsT ts).2
  unfold itemT at h
  split at h
  · next t1 e =>
    rw [e] at h1
    simp at h1
    have := groupT_wt h
    omega
  · next t1 e =>
    rw [e] at h1
    simp at h1
    have := boxT_wt h
    omega
theorem listA_wt {s : List UInt8} {l : List Adr} (h : listA s = some l) : awS l ≤ 2 * s.length := by
  unfold listA listT at h
  have h2 := toksA_wt s.length s (Nat.le_refl _)
  split at h
  · next m e =>
    have h1 := itemsT_wt itemT_wt _ _ _ _ e
    split at h
    · obtain rfl := Option.some.inj h
      omega
    · cases h
  · cases h
end Go.Proofs.YtkmgflnmffdhjaaGreatDoor

/- Layer 19 in plain words: how long the envelope of some bytes is, as it is put. No program. -/
namespace Go.Proofs.YtkmgflnmffdhjaaGreatDoor
open Go Go.RowKit

theorem adrW_len (a : Adx) (h1 : a.name.length ≤ 1000000000) (h2 : a.loc.length ≤ 1000000000) (h3 : a.host.length ≤ 1000000000) : (adrW a).length ≤ 2 * (a.name.length + a.loc.length + a.host.length) + 200 := by
  have q1 := nstW_size a.name (neB a.name) h1
  have q2 := strW_size a.loc h2
  have q3 := nstW_size a.host (neB a.host) h3
  have q4 := strW_size a.name h1
  have q5 : nilW.length = 3 := rfl
  unfold adrW adrP
  split
  · rw [rowW_four]
    simp only [List.length_cons, List.length_append, List.length_nil]
    omega
  · split
    · rw [rowW_four]
      simp only [List.length_cons, List.length_append, List.length_nil]
      omega
    · rw [rowW_four]
      simp only [List.length_cons, List.length_append, List.length_nil]
      omega
theorem adrs_len : ∀ (l : List Adr), awS l ≤ 1000000000 → smallX (l.map toX) (awS l) ∧ ((l.map toX).flatMap adrW).length ≤ 202 * awS l
  | [], _ => ⟨(fun a h => by cases h), by simp⟩
  | a :: r, h => by
    rw [awS_cons] at h
    obtain ⟨i1, i2⟩ := adrs_len r (by omega)
    have hw : aw a = a.name.length + a.loc.length + a.host.length + 1 := rfl
    have h1 : (adrW (toX a)).length ≤ 2 * (a.name.length + a.loc.length + a.host.length) + 200 := adrW_len (toX a) (by show a.name.length ≤ _; omega) (by show a.loc.length ≤ _; omega) (by show a.host.length ≤ _; omega)
    rw [awS_cons]
    constructor
    · intro x hx
      rw [List.map_cons] at hx
      rcases List.mem_cons.1 hx with rfl | hx
      · exact ⟨by show a.name.length ≤ _; omega, by show a.loc.length ≤ _; omega, by show a.host.length ≤ _; omega⟩
      · obtain ⟨b1, b2, b3⟩ := i1 x hx
        exact ⟨by omega, by omega, by omega⟩
    · rw [List.map_cons, List.flatMap_cons, List.length_append]
      omega
theorem adrX_size (s : List UInt8) (hs : s.length ≤ 100000) : smallX (adrX s) 100000000 ∧ (listW (adrX s)).length ≤ 400000000 := by
  unfold adrX
  cases h : listA s with
  | none => exact ⟨fun a ha => (by cases ha), by decide⟩
  | some l =>
    have h1 := listA_wt h
    obtain ⟨i1, i2⟩ := adrs_len l (by omega)
    refine ⟨smallX_more i1 (by omega), ?_⟩
    simp only
    unfold listW
    split
    · decide
    · simp only [List.length_cons, List.length_append, List.length_nil]
      omega
theorem orX_size {a b : List Adx} (ha : smallX a 100000000 ∧ (listW a).length ≤ 400000000) (hb : smallX b 100000000 ∧ (listW b).length ≤ 400000000) : smallX (orX a b) 100000000 ∧ (listW (orX a b)).length ≤ 400000000 := by
  unfold orX
  split
  · exact hb
  · exact ha
theorem ofE_sized (l : List UInt8) (fs : List Fld) (hl : l.length ≤ 100000) : sizedE (ofE l fs) := by
  have hv : ∀ nm, (valueS l fs nm).length ≤ 100000 := fun nm => Nat.le_trans (valueS_short l fs nm) hl
  have ha : ∀ nm, smallX (adrX (valueS l fs nm)) 100000000 ∧ (listW (adrX (valueS l fs nm))).length ≤ 400000000 := fun nm => adrX_size _ (hv nm)
  have h1 := orX_size (ha nmSender) (ha nmFrom)
  have h2 := orX_size (ha nmReplyTo) (ha nmFrom)
  exact ⟨Nat.le_trans (hv _) (by decide), Nat.le_trans (hv _) (by decide), Nat.le_trans (hv _) (by decide), Nat.le_trans (hv _) (by decide),
    (ha nmFrom).1, h1.1, h2.1, (ha nmTo).1, (ha nmCc).1, (ha nmBcc).1, (ha nmFrom).2, h1.2, h2.2, (ha nmTo).2, (ha nmCc).2, (ha nmBcc).2⟩
end Go.Proofs.YtkmgflnmffdhjaaGreatDoor

/- Layer 19 in plain words: the tokens of what is put, and that they are no more than its bytes. No program. -/
namespace Go.Proofs.YtkmgflnmffdhjaaGreatDoor
open Go Go.RowKit

theorem nstW_pos (s : List UInt8) (b : Bool) : 1 ≤ (nstW s b).length := by
  unfold nstW strW litT nilW
  split
  · split
    · simp
    · split <;> simp
  · simp
/-- A text that is read as tokens, which are one part. -/
def Prt (x : List UInt8) (m : Nat) : Prop := ∃ ts, Tk x ts ∧ Lv ts 1 ∧ ts.length ≤ m ∧ ts.length ≤ x.length
theorem prt_nst (s : List UInt8) (b : Bool) (h : s.length ≤ 4294967295) : Prt (nstW s b) 1 := by
  refine ⟨_, tk_nst s b h, ?_, Nat.le_refl _, nstW_pos s b⟩
  unfold nstT
  split
  · exact lv_one 2 _ (.inr rfl)
  · exact lv_one 1 _ (.inl rfl)
theorem prt_str (s : List UInt8) (h : s.length ≤ 4294967295) : Prt (strW s) 1 := prt_nst s true h
theorem prt_nil : Prt nilW 1 := prt_nst [] false (by simp)
/-- Parts with blanks between. -/
theorem join_prts : ∀ (ps : List (List UInt8)) (p : List UInt8) (M : Nat), (∀ x ∈ p :: ps, Prt x M) → ∃ ts, Tk (Lib.join (p :: ps) [32]) ts ∧ Lv ts (ps.length + 1) ∧ ts.length ≤ (M + 1) * (ps.length + 1) ∧ ts.length ≤ (Lib.join (p :: ps) [32]).length
  | [], p, M, h => by
    obtain ⟨ts, h1, h2, h3, h4⟩ := h p (List.mem_singleton.2 rfl)
    refine ⟨ts, by rw [Lib.join_one]; exact h1, h2, ?_, by rw [Lib.join_one]; exact h4⟩
    simp
    omega
  | q :: ps, p, M, h => by
    obtain ⟨ts, h1, h2, h3, h4⟩ := h p List.mem_cons_self
    obtain ⟨us, g1, g2, g3, g4⟩ := join_prts ps q M (fun x hx => h x (List.mem_cons_of_mem _ hx))
    have e : Lib.join (p :: q :: ps) [32] = p ++ 32 :: Lib.join (q :: ps) [32] := by
      rw [Lib.join_cons, Lib.join_cons]
      simp [Lib.joinTail]
    refine ⟨ts ++ (5, []) :: us, by rw [e]; exact h1.blank g1, ?_, ?_, by
      rw [e, List.length_append, List.length_append, List.length_cons, List.length_cons]
      omega⟩
    · have := h2.app (lv_blank.app g2)
      rw [List.length_cons]
      rw [show ps.length + 1 + 1 = 1 + (0 + (ps.length + 1)) by omega]
      exact this
    · rw [List.length_append, List.length_cons, List.length_cons, Nat.mul_add (M + 1) (ps.length + 1) 1]
      omega
theorem row_prts (ps : List (List UInt8)) (p : List UInt8) (M : Nat) (h : ∀ x ∈ p :: ps, Prt x M) : ∃ ts, TkA (rowW (p :: ps)) ((3, []) :: (ts ++ [(4, [])])) ∧ Lv ts (ps.length + 1) ∧ ts.length ≤ (M + 1) * (ps.length + 1) ∧ ts.length + 2 ≤ (rowW (p :: ps)).length := by
  obtain ⟨ts, h1, h2, h3, h4⟩ := join_prts ps p M h
  refine ⟨ts, h1.close.opened, h2, h3, ?_⟩
  unfold rowW
  simp only [List.length_cons, List.length_append, List.length_nil]
  omega
theorem adr_tks (a : Adx) (h1 : a.name.length ≤ 4294967295) (h2 : a.loc.length ≤ 4294967295) (h3 : a.host.length ≤ 4294967295) : ∃ ts, TkA (adrW a) ts ∧ Lv ts 1 ∧ ts.length ≤ 10 ∧ ts.length ≤ (adrW a).length := by
  obtain ⟨p, ps, hps, hl, hall⟩ : ∃ p ps, adrP a = p :: ps ∧ ps.length = 3 ∧ ∀ x ∈ p :: ps, Prt x 1 := by
    have n1 := prt_nst a.name (neB a.name) h1
    have n2 := prt_str a.loc h2
    have n3 := prt_nst a.host (neB a.host) h3
    have n4 := prt_str a.name h1
    have n5 := prt_nil
    unfold adrP
    split
    · refine ⟨_, _, rfl, rfl, fun x hx => ?_⟩
      simp only [List.mem_cons, List.not_mem_nil, or_false] at hx
      rcases hx with rfl | rfl | rfl | rfl <;> assumption
    · split
      · refine ⟨_, _, rfl, rfl, fun x hx => ?_⟩
        simp only [List.mem_cons, List.not_mem_nil, or_false] at hx
        rcases hx with rfl | rfl | rfl | rfl <;> assumption
      · refine ⟨_, _, rfl, rfl, fun x hx => ?_⟩
        simp only [List.mem_cons, List.not_mem_nil, or_false] at hx
        rcases hx with rfl | rfl | rfl | rfl <;> assumption
  obtain ⟨ts, t1, t2, t3, t4⟩ := row_prts ps p 1 hall
  refine ⟨_, by unfold adrW; rw [hps]; exact t1, lv_row t2, ?_, ?_⟩
  · rw [hl] at t3
    simp
    omega
  · unfold adrW
    rw [hps]
    simp only [List.length_cons, List.length_append, List.length_nil]
    omega
theorem adrs_tks : ∀ (l : List Adx), smallX l 4294967295 → ∃ ts, TkA (l.flatMap adrW) ts ∧ Lv ts l.length ∧ ts.length ≤ 10 * l.length ∧ ts.length ≤ (l.flatMap adrW).length
  | [], _ => ⟨[], fun q g => by simp, lv_nil, by simp, by simp⟩
  | a :: r, h => by
    obtain ⟨us, u1, u2, u3, u4⟩ := adrs_tks r (fun b hb => h b (List.mem_cons_of_mem _ hb))
    obtain ⟨h1, h2, h3⟩ := h a List.mem_cons_self
    obtain ⟨ts, t1, t2, t3, t4⟩ := adr_tks a h1 h2 h3
    refine ⟨ts ++ us, by rw [List.flatMap_cons]; exact t1.app u1, ?_, ?_, by
      rw [List.flatMap_cons, List.length_append, List.length_append]
      omega⟩
    · have := t2.app u2
      rw [List.length_cons, Nat.add_comm]
      exact this
    · rw [List.length_append, List.length_cons]
      omega
theorem prt_list (l : List Adx) (N : Nat) (hl : l.length ≤ N) (h : smallX l 4294967295) : Prt (listW l) (10 * N + 2) := by
  unfold listW
  split
  · obtain ⟨ts, h1, h2, h3, h4⟩ := prt_nil
    exact ⟨ts, h1, h2, by omega, h4⟩
  · obtain ⟨ts, t1, t2, t3, t4⟩ := adrs_tks l h
    refine ⟨_, (t1.tk.close.opened).tk, lv_row t2, ?_, ?_⟩
    · simp
      omega
    · simp only [List.length_cons, List.length_append, List.length_nil]
      omega
end Go.Proofs.YtkmgflnmffdhjaaGreatDoor

/- Layer 20 in plain words: how a message is made, as it is told: its text, its tokens, its length. No program. -/
namespace Go.Proofs.YtkmgflnmffdhjaaGreatDoor
open Go Go.RowKit

/-! Parts, however many tokens they are. -/
def PrtE (x : List UInt8) : Prop := ∃ ts, Tk x ts ∧ Lv ts 1 ∧ ts.length ≤ x.length
theorem Prt.e {x : List UInt8} {m : Nat} (h : Prt x m) : PrtE x := by
  obtain ⟨ts, h1, h2, _, h4⟩ := h
  exact ⟨ts, h1, h2, h4⟩
theorem join_e : ∀ (ps : List (List UInt8)) (p : List UInt8), (∀ x ∈ p :: ps, PrtE x) → ∃ ts, Tk (Lib.join (p :: ps) [32]) ts ∧ Lv ts (ps.length + 1) ∧ ts.length ≤ (Lib.join (p :: ps) [32]).length
  | [], p, h => by
    obtain ⟨ts, h1, h2, h3⟩ := h p (List.mem_singleton.2 rfl)
    exact ⟨ts, by rw [Lib.join_one]; exact h1, h2, by rw [Lib.join_one]; exact h3⟩
  | q :: ps, p, h => by
    obtain ⟨ts, h1, h2, h3⟩ := h p List.mem_cons_self
    obtain ⟨us, g1, g2, g3⟩ := join_e ps q (fun x hx => h x (List.mem_cons_of_mem _ hx))
    have e : Lib.join (p :: q :: ps) [32] = p ++ 32 :: Lib.join (q :: ps) [32] := by
      rw [Lib.join_cons, Lib.join_cons]
      simp [Lib.joinTail]
    refine ⟨ts ++ (5, []) :: us, by rw [e]; exact h1.blank g1, ?_, ?_⟩
    · have := h2.app (lv_blank.app g2)
      rw [List.length_cons, show ps.length + 1 + 1 = 1 + (0 + (ps.length + 1)) by omega]
      exact this
    · rw [e, List.length_append, List.length_append, List.length_cons, List.length_cons]
      omega
/-- One pair of brackets around all. -/
def Whole (x : List UInt8) : Prop := ∃ ts c, TkA x ((3, []) :: (ts ++ [(4, [])])) ∧ Lv ts c ∧ ts.length + 2 ≤ x.length ∧ 1 ≤ c
theorem lv_ne {ts : List (Nat × List UInt8)} {c : Nat} (h : Lv ts c) (hc : 1 ≤ c) : ts ≠ [] := by
  rintro rfl
  have h1 := (h 1 0 (by decide)).1
  rw [rnD_nil] at h1
  have h2 := congrArg Prod.snd h1
  simp at h2
  omega
theorem row_e {ps : List (List UInt8)} (h0 : ps ≠ []) (h : ∀ x ∈ ps, PrtE x) : Whole (rowW ps) := by
  cases ps with
  | nil => exact absurd rfl h0
  | cons p q =>
    obtain ⟨ts, h1, h2, h3⟩ := join_e q p h
    refine ⟨ts, _, h1.close.opened, h2, ?_, by omega⟩
    unfold rowW
    simp only [List.length_cons, List.length_append, List.length_nil]
    omega
theorem Whole.e {x : List UInt8} (h : Whole x) : PrtE x := by
  obtain ⟨ts, c, h1, h2, h3, _⟩ := h
  exact ⟨_, h1.tk, lv_row h2, by simp only [List.length_cons, List.length_append, List.length_nil]; omega⟩
theorem str_e (s : List UInt8) (h : s.length ≤ 4294967295) : PrtE (strW s) := (prt_str s h).e
theorem nst_e (s : List UInt8) (b : Bool) (h : s.length ≤ 4294967295) : PrtE (nstW s b) := (prt_nst s b h).e
theorem nil_e : PrtE nilW := prt_nil.e
theorem dec_ne (n : Nat) : Lib.decDigits n ≠ [] := by
  intro e
  have := Lib.decDigits_length n
  rw [e] at this
  unfold Lib.decDigits at e
  split at e <;> simp at e
theorem num_e (n : Nat) : PrtE (Lib.itoa (n : Int)) := by
  have ei : Lib.itoa (n : Int) = Lib.decDigits n := by
    unfold Lib.itoa
    rw [if_neg (by omega)]
    simp
  have ha : isAst (Lib.itoa (n : Int)) = true := by
    unfold isAst
    rw [ei, Bool.and_eq_true]
    constructor
    · cases hd : Lib.decDigits n with
      | nil => exact absurd hd (dec_ne n)
      | cons c r => rfl
    · have h := decDigits_all n
      rw [List.all_eq_true] at h ⊢
      intro c hc
      have h1 := of_decide_eq_true (h c hc)
      have h3 : c = 48 ∨ c = 49 ∨ c = 50 ∨ c = 51 ∨ c = 52 ∨ c = 53 ∨ c = 54 ∨ c = 55 ∨ c = 56 ∨ c = 57 := by
        have h4 : c.toNat = 48 ∨ c.toNat = 49 ∨ c.toNat = 50 ∨ c.toNat = 51 ∨ c.toNat = 52 ∨ c.toNat = 53 ∨ c.toNat = 54 ∨ c.toNat = 55 ∨ c.toNat = 56 ∨ c.toNat = 57 := by omega
        rcases h4 with h | h | h | h | h | h | h | h | h | h
        · exact .inl (toNat_eq h)
        · exact .inr (.inl (toNat_eq h))
        · exact .inr (.inr (.inl (toNat_eq h)))
        · exact .inr (.inr (.inr (.inl (toNat_eq h))))
        · exact .inr (.inr (.inr (.inr (.inl (toNat_eq h)))))
        · exact .inr (.inr (.inr (.inr (.inr (.inl (toNat_eq h))))))
        · exact .inr (.inr (.inr (.inr (.inr (.inr (.inl (toNat_eq h)))))))
        · exact .inr (.inr (.inr (.inr (.inr (.inr (.inr (.inl (toNat_eq h))))))))
        · exact .inr (.inr (.inr (.inr (.inr (.inr (.inr (.inr (.inl (toNat_eq h)))))))))
        · exact .inr (.inr (.inr (.inr (.inr (.inr (.inr (.inr (.inr (toNat_eq h)))))))))
      rcases h3 with rfl | rfl | rfl | rfl | rfl | rfl | rfl | rfl | rfl | rfl <;> decide
  have hne : (Lib.itoa (n : Int)) ≠ [] := by rw [ei]; exact dec_ne n
  refine ⟨[(1, Lib.itoa (n : Int))], ?_, lv_one 1 _ (.inl rfl), List.length_pos_iff.2 hne⟩
  intro q g hq
  show toksW (g + 1) _ = _
  rw [toks_step (tok_atom ha hq)]
  rfl
/-! The text. -/
def nmCid : List UInt8 := [99, 111, 110, 116, 101, 110, 116, 45, 105, 100]
def nmCde : List UInt8 := [99, 111, 110, 116, 101, 110, 116, 45, 100, 101, 115, 99, 114, 105, 112, 116, 105, 111, 110]
def nmMd5 : List UInt8 := [99, 111, 110, 116, 101, 110, 116, 45, 109, 100, 53]
def nmDis : List UInt8 := [99, 111, 110, 116, 101, 110, 116, 45, 100, 105, 115, 112, 111, 115, 105, 116, 105, 111, 110]
def nmLang : List UInt8 := [99, 111, 110, 116, 101, 110, 116, 45, 108, 97, 110, 103, 117, 97, 103, 101]
def nmLoc : List UInt8 := [99, 111, 110, 116, 101, 110, 116, 45, 108, 111, 99, 97, 116, 105, 111, 110]
def mixN : List UInt8 := [109, 105, 120, 101, 100]
def appN : List UInt8 := [97, 112, 112, 108, 105, 99, 97, 116, 105, 111, 110]
def octN : List UInt8 := [111, 99, 116, 101, 116, 45, 115, 116, 114, 101, 97, 109]
def chsN : List UInt8 := [99, 104, 97, 114, 115, 101, 116]
def usaN : List UInt8 := [117, 115, 45, 97, 115, 99, 105, 105]
def sevN : List UInt8 := [55, 98, 105, 116]
def prmP (ps : List Prm) : List (List UInt8) := ps.flatMap fun p => [strW p.1, strW p.2]
def prsW (ps : List Prm) : List UInt8 := if ps = [] then nilW else rowW (prmP ps)
def csW : List UInt8 := rowW [strW chsN, strW usaN]
def fitK (k : Nat) (v : Val) : Bool := if k = 1 then v.type == mulN else if k = 2 then v.type == msgN && v.sub == rfcN else !(v.type == mulN) && !(v.type == msgN && v.sub == rfcN)
def kindK (k : Nat) (o : Option Val) : List UInt8 × List UInt8 × List UInt8 :=
  match o with
  | some v => if fitK k v = true then (v.type, v.sub, prsW v.params) else if k = 1 then (mulN, mixN, nilW) else if k = 2 then (msgN, rfcN, nilW) else (appN, octN, nilW)
  | none => if k = 1 then (mulN, mixN, nilW) else if k = 2 then (msgN, rfcN, nilW) else (txtN, plnN, csW)
def kindS (l : List UInt8) (fs : List Fld) (k : Nat) : List UInt8 × List UInt8 × List UInt8 := kindK k (parseL (valueS l fs ctyN) true)
def fldW (l : List UInt8) (fs : List Fld) (nm : List UInt8) : List UInt8 := nstW (valueS l fs nm) (hasF nm fs)
def disK (o : Option Val) : List UInt8 := match o with
  | some v => rowW [strW v.type, prsW v.params]
  | none => nilW
def disW (l : List UInt8) (fs : List Fld) : List UInt8 := disK (parseL (valueS l fs nmDis) false)
def restW (l : List UInt8) (fs : List Fld) : List (List UInt8) := [disW l fs, fldW l fs nmLang, fldW l fs nmLoc]
def encS20 (l : List UInt8) (fs : List Fld) : List UInt8 := if foldS (valueS l fs cteN) = [] then sevN else foldS (valueS l fs cteN)
mutual
def stT (l : List UInt8) (all : Bool) : Tr → List UInt8
  | .mk k hd bd ks _ _ =>
    if k = 1 then 40 :: (stK l all ks ++ 32 :: (Lib.join (strW (kindS l (fsOf l hd.1 hd.2) k).2.1 :: (if all = true then (kindS l (fsOf l hd.1 hd.2) k).2.2 :: restW l (fsOf l hd.1 hd.2) else [])) [32] ++ [41]))
    else rowW ([strW (kindS l (fsOf l hd.1 hd.2) k).1, strW (kindS l (fsOf l hd.1 hd.2) k).2.1, (kindS l (fsOf l hd.1 hd.2) k).2.2, fldW l (fsOf l hd.1 hd.2) nmCid, fldW l (fsOf l hd.1 hd.2) nmCde, strW (encS20 l (fsOf l hd.1 hd.2)), Lib.itoa ((bd.2 - bd.1 : Nat) : Int)]
      ++ ((if k = 2 then stH l all ks else []) ++ ((if (k = 2 ∧ ks ≠ []) ∨ (kindS l (fsOf l hd.1 hd.2) k).1 = txtN then [Lib.itoa ((linesZ l (bd.1 : Int) (bd.2 : Int)).length : Int)] else [])
      ++ (if all = true then fldW l (fsOf l hd.1 hd.2) nmMd5 :: restW l (fsOf l hd.1 hd.2) else []))))
def stK (l : List UInt8) (all : Bool) : List Tr → List UInt8
  | [] => []
  | t :: r => stT l all t ++ stK l all r
def stH (l : List UInt8) (all : Bool) : List Tr → List (List UInt8)
  | [] => []
  | t :: _ => [putE (ofE l (fsOf l t.hd.1 t.hd.2)), stT l all t]
end
theorem prmP_ne {ps : List Prm} (h : ps ≠ []) : prmP ps ≠ [] := by
  cases ps with
  | nil => exact absurd rfl h
  | cons p r => simp [prmP]
theorem prs_e {ps : List Prm} (h : ∀ q ∈ ps, q.1.length ≤ 4294967295 ∧ q.2.length ≤ 4294967295) : PrtE (prsW ps) := by
  unfold prsW
  split
  · exact nil_e
  · next hne =>
    refine (row_e (prmP_ne hne) (fun x hx => ?_)).e
    unfold prmP at hx
    obtain ⟨q, hq, hx⟩ := List.mem_flatMap.1 hx
    simp only [List.mem_cons, List.not_mem_nil, or_false] at hx
    rcases hx with rfl | rfl
    · exact str_e _ (h q hq).1
    · exact str_e _ (h q hq).2
theorem val_small {s : List UInt8} {two : Bool} {V : Val} (hs : s.length ≤ 1500) (h : parseL s two = some V) : shortV V 1500 := by
  obtain ⟨h1, _⟩ := parse_vals h
  refine ⟨Nat.le_trans h1.ty hs, Nat.le_trans h1.sb hs, Nat.le_trans h1.ct hs, fun q hq => Nat.le_trans (h1.nm q hq) hs, fun q hq => Nat.le_trans (h1.vl q hq) ?_⟩
  exact Nat.mul_le_mul (by omega) hs
theorem shortV.prs {V : Val} (h : shortV V 1500) : PrtE (prsW V.params) := prs_e (fun q hq => ⟨Nat.le_trans (h.nm q hq) (by decide), Nat.le_trans (h.vl q hq) (by decide)⟩)
theorem cs_e : PrtE csW := (row_e (by simp) (fun x hx => by
  simp only [List.mem_cons, List.not_mem_nil, or_false] at hx
  rcases hx with rfl | rfl
  · exact str_e _ (by decide)
  · exact str_e _ (by decide))).e
theorem kind_e (l : List UInt8) (fs : List Fld) (k : Nat) (hl : l.length ≤ 1500) : PrtE (strW (kindS l fs k).1) ∧ PrtE (strW (kindS l fs k).2.1) ∧ PrtE (kindS l fs k).2.2 := by
  have hv := Nat.le_trans (valueS_short l fs ctyN) hl
  have a1 := str_e mulN (by decide)
  have a2 := str_e mixN (by decide)
  have a3 := str_e msgN (by decide)
  have a4 := str_e rfcN (by decide)
  have a5 := str_e appN (by decide)
  have a6 := str_e octN (by decide)
  have a7 := str_e txtN (by decide)
  have a8 := str_e plnN (by decide)
  unfold kindS
  cases h : parseL (valueS l fs ctyN) true with
  | none =>
    unfold kindK
    simp only
    split
    · exact ⟨a1, a2, nil_e⟩
    · split
      · exact ⟨a3, a4, nil_e⟩
      · exact ⟨a7, a8, cs_e⟩
  | some V =>
    have hV := val_small hv h
    unfold kindK
    simp only
    split
    · exact ⟨str_e _ (Nat.le_trans hV.ty (by decide)), str_e _ (Nat.le_trans hV.sb (by decide)), hV.prs⟩
    · split
      · exact ⟨a1, a2, nil_e⟩
      · split
        · exact ⟨a3, a4, nil_e⟩
        · exact ⟨a5, a6, nil_e⟩
theorem fld_e (l : List UInt8) (fs : List Fld) (nm : List UInt8) (hl : l.length ≤ 1500) : PrtE (fldW l fs nm) :=
  nst_e _ _ (Nat.le_trans (valueS_short l fs nm) (by omega))
theorem dis_e (l : List UInt8) (fs : List Fld) (hl : l.length ≤ 1500) : PrtE (disW l fs) := by
  have hv := Nat.le_trans (valueS_short l fs nmDis) hl
  unfold disW
  cases h : parseL (valueS l fs nmDis) false with
  | none => exact nil_e
  | some V =>
    have hV := val_small hv h
    refine (row_e (by simp) (fun x hx => ?_)).e
    simp only [List.mem_cons, List.not_mem_nil, or_false] at hx
    rcases hx with rfl | rfl
    · exact str_e _ (Nat.le_trans hV.ty (by decide))
    · exact hV.prs
theorem rest_e (l : List UInt8) (fs : List Fld) (hl : l.length ≤ 1500) : ∀ x ∈ restW l fs, PrtE x := by
  intro x hx
  unfold restW at hx
  simp only [List.mem_cons, List.not_mem_nil, or_false] at hx
  rcases hx with rfl | rfl | rfl
  · exact dis_e l fs hl
  · exact fld_e l fs _ hl
  · exact fld_e l fs _ hl
theorem enc_e (l : List UInt8) (fs : List Fld) (hl : l.length ≤ 1500) : PrtE (strW (encS20 l fs)) := by
  have hv := Nat.le_trans (valueS_short l fs cteN) hl
  refine str_e _ ?_
  unfold encS20
  split
  · decide
  · have : (foldS (valueS l fs cteN)).length = (valueS l fs cteN).length := by simp [foldS]
    omega
theorem small_toks {l : List UInt8} {fs : List Fld} (hl : l.length ≤ 1500) : PrtE (putE (ofE l fs)) := by
  have hv : ∀ nm, (valueS l fs nm).length ≤ 4294967295 := fun nm => Nat.le_trans (valueS_short l fs nm) (by omega)
  have hs := ofE_sized l fs (by omega)
  have hx : ∀ {m : List Adx}, smallX m 100000000 → smallX m 4294967295 := fun h => smallX_more h (by decide)
  have parts : ∀ x ∈ envP (ofE l fs), PrtE x := by
    intro x hx2
    unfold envP at hx2
    simp only [List.mem_cons, List.not_mem_nil, or_false] at hx2
    rcases hx2 with rfl | rfl | rfl | rfl | rfl | rfl | rfl | rfl | rfl | rfl
    · exact nst_e _ _ (hv _)
    · exact nst_e _ _ (hv _)
    · exact (prt_list _ _ (Nat.le_refl _) (hx hs.s0)).e
    · exact (prt_list _ _ (Nat.le_refl _) (hx hs.s1)).e
    · exact (prt_list _ _ (Nat.le_refl _) (hx hs.s2)).e
    · exact (prt_list _ _ (Nat.le_refl _) (hx hs.s3)).e
    · exact (prt_list _ _ (Nat.le_refl _) (hx hs.s4)).e
    · exact (prt_list _ _ (Nat.le_refl _) (hx hs.s5)).e
    · exact nst_e _ _ (hv _)
    · exact nst_e _ _ (hv _)
  exact (row_e (by simp [envP]) parts).e
mutual
theorem st_whole (l : List UInt8) (all : Bool) (hl : l.length ≤ 1500) : ∀ t : Tr, Whole (stT l all t)
  | .mk k hd bd ks cu e => by
    have hK := kind_e l (fsOf l hd.1 hd.2) k hl
    unfold stT
    by_cases hk : k = 1
    · rw [if_pos hk]
      obtain ⟨ts, h1, h2, h3⟩ := st_kids l all hl ks
      obtain ⟨us, g1, g2, g3⟩ := join_e (if all = true then (kindS l (fsOf l hd.1 hd.2) k).2.2 :: restW l (fsOf l hd.1 hd.2) else []) (strW (kindS l (fsOf l hd.1 hd.2) k).2.1) (by
        intro x hx
        rcases List.mem_cons.1 hx with rfl | hx
        · exact hK.2.1
        · cases all with
          | false => simp at hx
          | true =>
            rw [if_pos rfl] at hx
            rcases List.mem_cons.1 hx with rfl | hx
            · exact hK.2.2
            · exact rest_e l _ hl x hx)
      have hb := (h1.tk.blank g1).close.opened
      rw [List.append_assoc, List.cons_append] at hb
      refine ⟨_, _, hb, h2.app (lv_blank.app g2), ?_, by omega⟩
      simp only [List.length_cons, List.length_append, List.length_nil]
      omega
    · rw [if_neg hk]
      refine row_e (by simp) (fun x hx => ?_)
      rcases List.mem_append.1 hx with hx | hx
      · simp only [List.mem_cons, List.not_mem_nil, or_false] at hx
        rcases hx with rfl | rfl | rfl | rfl | rfl | rfl | rfl
        · exact hK.1
        · exact hK.2.1
        · exact hK.2.2
        · exact fld_e l _ _ hl
        · exact fld_e l _ _ hl
        · exact enc_e l _ hl
        · exact num_e _
      · rcases List.mem_append.1 hx with hx | hx
        · by_cases h2 : k = 2
          · rw [if_pos h2] at hx
            exact st_head l all hl ks x hx
          · rw [if_neg h2] at hx
            cases hx
        · rcases List.mem_append.1 hx with hx | hx
          · split at hx
            · rw [List.mem_singleton.1 hx]
              exact num_e _
            · cases hx
          · cases all with
            | false => simp at hx
            | true =>
              rw [if_pos rfl] at hx
              rcases List.mem_cons.1 hx with rfl | hx
              · exact fld_e l _ _ hl
              · exact rest_e l _ hl x hx
theorem st_kids (l : List UInt8) (all : Bool) (hl : l.length ≤ 1500) : ∀ ks : List Tr, ∃ ts, TkA (stK l all ks) ts ∧ Lv ts ks.length ∧ ts.length ≤ (stK l all ks).length
  | [] => ⟨[], fun q g => by simp [stK], lv_nil, by simp [stK]⟩
  | t :: r => by
    obtain ⟨ts, c, h1, h2, h3, _⟩ := st_whole l all hl t
    obtain ⟨us, g1, g2, g3⟩ := st_kids l all hl r
    unfold stK
    refine ⟨_, h1.app g1, ?_, ?_⟩
    · have := (lv_row h2).app g2
      rw [List.length_cons, Nat.add_comm]
      exact this
    · simp only [List.length_cons, List.length_append, List.length_nil]
      omega
theorem st_head (l : List UInt8) (all : Bool) (hl : l.length ≤ 1500) : ∀ ks : List Tr, ∀ x ∈ stH l all ks, PrtE x
  | [] => fun x hx => by simp [stH] at hx
  | t :: r => fun x hx => by
    unfold stH at hx
    simp only [List.mem_cons, List.not_mem_nil, or_false] at hx
    rcases hx with rfl | rfl
    · exact small_toks hl
    · exact (st_whole l all hl t).e
end
/-- A multipart has how its parts are made, one behind the other, at the front. -/
theorem st_nests (l : List UInt8) (all : Bool) (t : Tr) (hk : t.kind = 1) : ∃ r, stT l all t = 40 :: (stK l all t.kids ++ 32 :: (r ++ [41])) := by
  obtain ⟨k, hd, bd, ks, cu, e⟩ := t
  have hk' : k = 1 := hk
  unfold stT
  rw [if_pos hk']
  exact ⟨_, rfl⟩
theorem stK_snoc (l : List UInt8) (all : Bool) : ∀ (ks : List Tr) (t : Tr), stK l all (ks ++ [t]) = stK l all ks ++ stT l all t
  | [], t => by simp [stK]
  | x :: r, t => by
    have ih := stK_snoc l all r t
    show stT l all x ++ stK l all (r ++ [t]) = stT l all x ++ stK l all r ++ stT l all t
    rw [ih, List.append_assoc]
/-! What kinds are told. -/
theorem kind_is (l : List UInt8) (fs : List Fld) (k : Nat) : ((kindS l fs k).1 = mulN ↔ k = 1) ∧ (((kindS l fs k).1 = msgN ∧ (kindS l fs k).2.1 = rfcN) ↔ k = 2) ∧ (kindS l fs k).1 ≠ [] ∧ (kindS l fs k).2.1 ≠ [] := by
  unfold kindS
  cases h : parseL (valueS l fs ctyN) true with
  | none =>
    unfold kindK
    simp only
    by_cases h1 : k = 1
    · subst h1
      decide
    · rw [if_neg h1]
      by_cases h2 : k = 2
      · subst h2
        decide
      · rw [if_neg h2]
        refine ⟨⟨fun e => absurd e (by decide), fun e => absurd e h1⟩, ⟨fun e => absurd e.1 (by decide), fun e => absurd e h2⟩, by decide, by decide⟩
  | some V =>
    obtain ⟨_, n1, n2⟩ := parse_vals h
    have n2 := n2 rfl
    unfold kindK
    simp only
    by_cases hf : fitK k V = true
    · rw [if_pos hf]
      unfold fitK at hf
      refine ⟨?_, ?_, n1, n2⟩
      · by_cases h1 : k = 1
        · rw [if_pos h1, beq_iff_eq] at hf
          exact ⟨fun _ => h1, fun _ => hf⟩
        · rw [if_neg h1] at hf
          refine ⟨fun e => ?_, fun e => absurd e h1⟩
          exfalso
          simp only at e
          by_cases h2 : k = 2
          · rw [if_pos h2, Bool.and_eq_true, beq_iff_eq] at hf
            rw [hf.1] at e
            exact absurd e (by decide)
          · rw [if_neg h2, Bool.and_eq_true] at hf
            rw [e] at hf
            exact absurd hf.1 (by decide)
      · by_cases h1 : k = 1
        · rw [if_pos h1, beq_iff_eq] at hf
          refine ⟨fun e => ?_, fun e => by omega⟩
          exfalso
          have := e.1
          simp only at this
          rw [hf] at this
          exact absurd this (by decide)
        · rw [if_neg h1] at hf
          by_cases h2 : k = 2
          · rw [if_pos h2, Bool.and_eq_true, beq_iff_eq, beq_iff_eq] at hf
            exact ⟨fun _ => h2, fun _ => hf⟩
          · rw [if_neg h2, Bool.and_eq_true] at hf
            refine ⟨fun e => ?_, fun e => absurd e h2⟩
            exfalso
            have e1 := e.1
            have e2 := e.2
            simp only at e1 e2
            rw [e1, e2] at hf
            exact absurd hf.2 (by decide)
    · rw [if_neg hf]
      by_cases h1 : k = 1
      · subst h1
        decide
      · rw [if_neg h1]
        by_cases h2 : k = 2
        · subst h2
          decide
        · rw [if_neg h2]
          refine ⟨⟨fun e => absurd e (by decide), fun e => absurd e h1⟩, ⟨fun e => absurd e.1 (by decide), fun e => absurd e h2⟩, by decide, by decide⟩
end Go.Proofs.YtkmgflnmffdhjaaGreatDoor
