/- Layer 18: a law of my own, of no function: appends to bytes that wait. -/
import Derived.Test.YtkkdplccneeaiaaGreatDoorGbWfB
namespace Go.Proofs.YtkkdplccneeaiaaGreatDoor
open Go Go.RowKit

theorem wt_own {W : World} {base n : Nat} {v : Value} {l : List UInt8} (h : W.ownsRow base 5 1 v n (l.map byteV)) : Wt W base v l := by
  have hn : n = l.length := by have := h.1; simp at this; exact this.symm
  subst hn
  rcases h.2 with ⟨rfl, h0⟩ | ⟨g, cap, cur, rfl, h1, h2, h3, h4, h5, h6⟩
  · exact .inl ⟨rfl, List.eq_nil_of_length_eq_zero h0⟩
  · exact .inr ⟨g, 0, cap, cur, rfl, h1, h2, h3, h4, by omega, by rw [List.drop_zero]; simpa using h6⟩
theorem grown_setRow (w : World) (g : Nat) (cs : Array Value) : w.grownBy (w.setRow g cs) (some g) := by
  refine ⟨rfl, rfl, rfl, by simp [World.setRow], fun k hk hne => ?_⟩
  have hkg : ¬ g = k := fun e => hne (by rw [e])
  simp [World.setRow, Array.getElem?_modify, hkg]
theorem run_append_wt {P : Program} (w : World) (base : Nat) (t ty : TypeId) (i : TypeInfo) (ht : P.underlying t = some (.slice 5)) (hi : P.info? 5 = some i) (hz : i.zero = some (.int .u8 0)) (hsize : i.size = 1) (hby : i.bytes = 1)
    (v : Value) (l : List UInt8) (hw : Wt w base v l) (ao : Option Addr) (m c : Nat) (x : List UInt8) (hm : x.length = m) (hsl : sliceAt w ao x) (h63 : l.length + m ≤ 4000000000) (hbase : base ≤ w.heap.size) :
    ∃ v' w', (Builtin.append_ #[t, t] ty #[v, .slice ao m c]).run P w = .ok v' w' ∧ Wt w' base v' (l ++ x) ∧ w.grownBy w' v.ownBlock ∧ (v'.ownBlock = v.ownBlock ∨ v'.ownBlock = some w.heap.size) := by
  subst hm
  by_cases h0 : x = []
  · subst h0
    have hle : ∃ a n k, v = .slice a n k ∧ n ≤ k := by
      rcases hw with ⟨rfl, _⟩ | ⟨g, off, cap, cur, rfl, _, _, h3, _⟩
      · exact ⟨_, _, _, rfl, Nat.le_refl _⟩
      · exact ⟨_, _, _, rfl, h3⟩
    obtain ⟨a, n, k, rfl, hnk⟩ := hle
    refine ⟨_, w, run_append_zeroW t ty 5 i a ao n k c ht hi hnk, by rw [List.append_nil]; exact hw, World.grownBy.refl _ _, .inl rfl⟩
  · obtain ⟨b2, off2, rfl, hlt2, hc2⟩ : ∃ b off, ao = some ⟨b, off, none⟩ ∧ b < w.heap.size ∧ ∀ j, (h : j < x.length) → w.cell? ⟨b, off + j, none⟩ = some (byteV x[j]) := hsl.resolve_left h0
    have hnews := sliceAt.news (.inr ⟨b2, off2, rfl, hlt2, hc2⟩ : sliceAt w (some ⟨b2, off2, none⟩) x)
    have hpos : 0 < x.length := List.length_pos_iff.2 h0
    rcases hw with ⟨rfl, rfl⟩ | ⟨g, off, cap, cur, rfl, h1, h2, h3, h4, h5, h6⟩
    · have hr := run_append_nil (P := P) w t ty 5 i _ ht hi hz ⟨b2, off2, none⟩ x.length c (x.map byteV) (by rw [hsize]; simp) hnews hpos (by simp only [List.length_nil] at h63; omega) (by rw [hby]; simp only [List.length_nil] at h63; omega)
      have hge := grownCap_ge w x.length 0 5
      have hcm : grownCap w x.length 0 5 ≤ maxLen := grownCap_le_maxLen w _ _ _ (by simp only [List.length_nil] at h63; unfold maxLen; omega)
      refine ⟨_, _, hr, .inr ⟨w.heap.size, 0, _, _, by rw [List.nil_append], hbase, heap_alloc_new w.drew _, by rw [List.nil_append]; exact hge, hcm, ?_, ?_⟩, ⟨rfl, rfl, rfl, by simp, fun k hk _ => heap_alloc_old w.drew _ hk⟩, .inr rfl⟩
      · simp only [Array.size_append, List.size_toArray, size_zeroCells, List.length_map]
        show 0 + _ ≤ x.length + _ * 1
        omega
      · rw [List.drop_zero, List.nil_append]
        simp only [Array.toList_append]
        exact List.take_left' (by simp)
    · by_cases hroom : l.length + x.length ≤ cap
      · have hf := run_firstCells_some (P := P) w i.size x.length ⟨b2, off2, none⟩ x.length c (x.map byteV) (by rw [hsize]; simp) hnews
        have hst := run_storeCells_at P g (off + l.length) 5 (x.map byteV) 0 cur w h2 (by simp; omega) (news_one x)
        simp only [Nat.add_zero, List.length_map] at hst
        have hadd : (⟨g, off, none⟩ : Addr).add l.length = ⟨g, off + l.length, none⟩ := Addr.add_lit g off l.length
        refine ⟨.slice (some ⟨g, off, none⟩) (l.length + x.length) cap, w.setRow g (cur.toList.take (off + l.length) ++ x.map byteV ++ cur.toList.drop (off + l.length + x.length)).toArray, ?_, ?_, grown_setRow w g _, .inl rfl⟩
        · rw [hsize] at hf
          simp [Builtin.append_, run_underlying ht, sizeOf, typeInfo, hi, Builtin.lenOf, hroom, hsize, hadd]
          simp [hf, hst]
        · have hl1 : (cur.toList.take (off + l.length)).length = off + l.length := by rw [List.length_take]; simp; omega
          right
          refine ⟨g, off, cap, _, by rw [List.length_append], h1, setRow_heap w g cur _ _ _ h2, by rw [List.length_append]; exact hroom, h4, ?_, ?_⟩
          · simp only [List.size_toArray, List.length_append, hl1, List.length_map, List.length_drop, Array.length_toList]
            omega
          · rw [List.map_append, List.length_append]
            show ((cur.toList.take (off + l.length) ++ x.map byteV ++ cur.toList.drop (off + l.length + x.length)).drop off).take (l.length + x.length) = _
            rw [List.append_assoc, List.drop_append_of_le_length (by omega), List.drop_take, Nat.add_sub_cancel_left, h6]
            rw [← List.append_assoc]
            exact List.take_left' (by simp)
      · have hold : ∀ j u, (l.map byteV)[j]? = some u → w.cell? ((⟨g, off, none⟩ : Addr).add j) = some u := by
          intro j u hu
          rw [Addr.add_lit]
          have hj : j < l.length := by have := (List.getElem?_eq_some_iff.1 hu).1; simpa using this
          have e := congrArg (fun m => m[j]?) h6
          simp only [List.getElem?_take, hj, if_true, List.getElem?_drop] at e
          rw [hu] at e
          simp only [World.cell?, h2]
          simpa using e
        have hb2 : (l.length + x.length) * i.bytes ≤ 140737488355328 := by rw [hby]; omega
        have hr := run_append_grow (P := P) w t ty 5 i _ ht hi hz ⟨g, off, none⟩ l.length cap (l.map byteV) (by rw [hsize]; simp) hold ⟨b2, off2, none⟩ x.length c (x.map byteV) (by rw [hsize]; simp) hnews (by omega) (by omega) (growslice_fits (by omega) hb2)
        have hge := grownCap_ge w (l.length + x.length) cap 5
        have hcm : grownCap w (l.length + x.length) cap 5 ≤ maxLen := grownCap_le_maxLen w _ _ _ (by unfold maxLen; omega)
        refine ⟨_, _, hr, .inr ⟨w.heap.size, 0, _, _, by rw [List.length_append], hbase, heap_alloc_new w.drew _, by rw [List.length_append]; exact hge, hcm, ?_, ?_⟩, ⟨rfl, rfl, rfl, by simp, fun k hk _ => heap_alloc_old w.drew _ hk⟩, .inr rfl⟩
        · simp only [Array.size_append, List.size_toArray, size_zeroCells, List.length_map]
          show 0 + _ ≤ l.length + x.length + _ * 1
          omega
        · rw [List.drop_zero, List.length_append, List.map_append]
          simp only [Array.toList_append]
          exact List.take_left' (by simp)
theorem wpList_append_wt {P : Program} {w : World} {ops : Array Oper} {rest : List Oper} {o : Oper} {a : Act} {Q : Exit → Act → World → Prop} (hgd : o.guard = none) (s x : Operand) (t : TypeId)
    (ho : o.op = .call { callee := .builtin .append, args := #[s, x], argTypes := #[t, t] })
    (base : Nat) (i : TypeInfo) (ht : P.underlying t = some (.slice 5)) (hi : P.info? 5 = some i) (hz : i.zero = some (.int .u8 0)) (hsize : i.size = 1) (hby : i.bytes = 1)
    (v : Value) (l : List UInt8) (hs : a.eval s = v) (hown : Wt w base v l)
    (ao : Option Addr) (m c : Nat) (n : List UInt8) (hm : n.length = m) (hx : a.eval x = .slice ao m c) (hsl : sliceAt w ao n) (h63 : l.length + m ≤ 4000000000) (hbase : base ≤ w.heap.size)
    (h : ∀ v' w', Wt w' base v' (l ++ n) → w.grownBy w' v.ownBlock → (v'.ownBlock = v.ownBlock ∨ v'.ownBlock = some w.heap.size) → wpList P ops Q rest (a.put o.dst v') w') : wpList P ops Q (o :: rest) a w := by
  obtain ⟨v', w', hr, g1, g2, g3⟩ := run_append_wt (P := P) w base t o.type i ht hi hz hsize hby v l hown ao m c n hm hsl h63 hbase
  refine wpList_plain hgd fun K hK => ?_
  unfold Oper.wp
  simp [execOp, ho, resolve, invoke, builtin, hs, hx, hr, Result.andThen]
  exact hK _ _ (h v' w' g1 g2 g3)
end Go.Proofs.YtkkdplccneeaiaaGreatDoor
