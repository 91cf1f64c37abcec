/- Layer 18: the laws: the commands of events. -/
import Derived.Test.YtkkdplccneeaiaaGreatDoorGbWkE
import Derived.Test.YtkkdplccneeaiaaGreatDoorGbWfQ
namespace Go.Proofs.YtkkdplccneeaiaaGreatDoor
open Go Go.RowKit

theorem cmdsT_snoc_cmd (es : List Ev) (t : List UInt8) : cmdsT (es ++ [.cmd t]) = cmdsT es ++ (t ++ [0, 10]) := by rw [cmdsT_append]; rfl
theorem take_map_succ {ps : List (Ev × Value)} {k : Nat} (h : k < ps.length) : (ps.map Prod.fst).take (k + 1) = (ps.map Prod.fst).take k ++ [ps[k].1] := by
  rw [List.take_succ_eq_append_getElem (by simpa using h), List.getElem_map]
theorem badE_take {es : List Ev} {k : Nat} (h : badE (es.take k) = true) : badE es = true := by
  have : badE es = (badE (es.take k) || badE (es.drop k)) := by rw [← badE_append, List.take_append_drop]
  rw [this, h]; rfl
/-- What commands answers. -/
def CmW (es : List Ev) (W : World) (e : Ending) (w' : World) : Prop :=
  ∃ U : ByteArray, e = .returned (.tuple #[.string U, .bool (!badE es)]) ∧ (badE es = false → U.data.toList = cmdsT es) ∧ Below W.heap.size W w'
set_option maxRecDepth 100000 in
set_option maxHeartbeats 8000000 in
theorem commands_any (B H : Nat) (u : Value) (ps : List (Ev × Value)) (es : List Ev) (W : World) (he : ps.map Prod.fst = es) (hO : W.ownsRow H 44 2 u ps.length (evCells ps)) (hE : ∀ p ∈ ps, evT W B p.1 p.2) (hs : (cmdsT es).length ≤ 1000000000) (hn : ps.length ≤ 2000000000) :
    Calls Tryz.prog 14 #[u] W (CmW es W) := by
  obtain ⟨ao, cap, rfl⟩ := row2_len hO
  obtain ⟨n, hnn⟩ : ∃ n, n = ps.length := ⟨_, rfl⟩
  have HN := Lib.hid hnn
  have HO := Lib.hid hO
  have HE := Lib.hid hE
  have HS := Lib.hid hs
  have Hes := Lib.hid he
  have HCl : Hid (∀ wr, Below W.heap.size W wr → ∀ k, (h : k < n) → ∃ g, ao = some ⟨g, 0, none⟩ ∧ wr.cell? ⟨g, k * 2, none⟩ = some (.int .i64 (evK (ps[k]'(by rw [← HN.out]; exact h)).1 : Int)) ∧ wr.cell? ⟨g, k * 2 + 1, none⟩ = some (ps[k]'(by rw [← HN.out]; exact h)).2) := by
    intro wr hb k h
    obtain ⟨g, cap', e, _, _, hgl, hc⟩ := row2_read HO.out (by rw [← HN.out]; omega)
    cases e
    obtain ⟨e0, e1⟩ := evCells_at ps k (by rw [← HN.out]; exact h)
    exact ⟨g, rfl, (hb.cell (p := ⟨g, k * 2, none⟩) hgl).trans ((hc _ (by omega)).trans e0), (hb.cell (p := ⟨g, k * 2 + 1, none⟩) hgl).trans ((hc _ (by omega)).trans e1)⟩
  rw [← hnn] at hn ⊢
  clear hO hE hs hnn he
  go_enter Tryz.func14, Tryz.ntmps14
  go_wp2_with fail
  go_loopg [4, 5] n (fun g x i wr => ∃ (k : Nat) (U : ByteArray), g = n - k ∧ k ≤ n ∧ i = .int .i64 (k : Int) ∧ x = .string U ∧ Hid (Below W.heap.size W wr) ∧ Hid (U.data.toList = cmdsT (es.take k)) ∧ Hid (badE (es.take k) = false))
  case atStart => exact ⟨0, ⟨#[]⟩, by omega, by omega, rfl, rfl, Below.refl _ _, rfl, rfl⟩
  case round =>
    obtain ⟨k, U, rfl, hk, rfl, rfl, HB, HU, HNb⟩ := hrel
    by_cases hlt : k < n
    · have hd : (k : Int) < (n : Int) := by omega
      have hk2 : k < ps.length := by rw [← HN.out]; exact hlt
      obtain ⟨g, rfl, c0, c1⟩ := HCl.out wr HB.out k hlt
      have hEk := HE.out ps[k] (List.getElem_mem hk2)
      have hts : es.take (k + 1) = es.take k ++ [ps[k].1] := by rw [← Hes.out]; exact take_map_succ hk2
      have hbe : badE (es.take (k + 1)) = badE [ps[k].1] := by rw [hts, badE_append, HNb.out]; rfl
      have hcl := cmdsT_take_le es (k + 1)
      have hcm : cmdsT (es.take (k + 1)) = cmdsT (es.take k) ++ cmdsT [ps[k].1] := by rw [hts, cmdsT_append]
      obtain ⟨ev, hev⟩ : ∃ ev, ev = ps[k].1 := ⟨_, rfl⟩
      obtain ⟨x, hx⟩ : ∃ x, x = ps[k].2 := ⟨_, rfl⟩
      rw [← hev] at c0 hEk hbe hcm
      rw [← hx] at c1 hEk
      clear hev hx hts
      have hUz : U.size ≤ 1000000000 := by
        have h1 := cmdsT_take_le es k
        have h2 := HS.out
        rw [← HU.out] at h1
        rw [← len_toList]; omega
      cases ev with
      | bad =>
        have c0' : wr.cell? ⟨g, k * 2, none⟩ = some (.int .i64 3) := c0
        have hB : badE es = true := badE_take (k := k + 1) (by rw [hbe]; rfl)
        have HBd := Lib.hid hB
        clear c0 hEk hbe hcm hcl hB
        go_wp2_with fail
        try rw [Exit.noGoto_ret]
        go_ret2
        refine ⟨⟨#[]⟩, by rw [HBd.out]; rfl, fun h => ?_, HB.out⟩
        rw [HBd.out] at h
        cases h
      | go =>
        have c0' : wr.cell? ⟨g, k * 2, none⟩ = some (.int .i64 1) := c0
        have HU' : Hid (U.data.toList = cmdsT (es.take (k + 1))) := by unfold Hid; rw [hcm, HU.out]; simp [cmdsT]
        have HN' : Hid (badE (es.take (k + 1)) = false) := hbe
        clear c0 hEk hbe hcm hcl
        go_wp2_with fail
        go_roundg (n - (k + 1))
        case measure => omega
        case rel => exact ⟨k + 1, U, rfl, hlt, by go_num, rfl, HB.out, HU'.out, HN'.out⟩
      | cmd t =>
        have c0' : wr.cell? ⟨g, k * 2, none⟩ = some (.int .i64 2) := c0
        obtain ⟨gx, ox, rfl, hgx, hgxl, hmx, hsx⟩ := hEk
        have ha : bytesArg wr (.slice (some ⟨gx, ox, none⟩) t.length t.length) t := (hsx.arg (Nat.le_refl _) hmx).below HB.out
        have hcv := bytesArg_string ha
        obtain ⟨T, hT⟩ : ∃ T : ByteArray, T = ⟨t.toArray⟩ := ⟨_, rfl⟩
        have hTl : T.data.toList = t := by rw [hT]
        obtain ⟨m, hm⟩ : ∃ m, m = t.length := ⟨_, rfl⟩
        rw [← hT] at hcv
        have hTz : T.size ≤ 1000000000 := by
          have h2 := HS.out
          rw [hcm] at hcl
          simp only [cmdsT, List.length_append] at hcl
          rw [← len_toList, hTl]; omega
        have HU' : Hid ((U ++ (T ++ ⟨#[0, 10]⟩)).data.toList = cmdsT (es.take (k + 1))) := by
          unfold Hid
          rw [hcm, cat_toList, cat_toList, HU.out, hTl]; simp [cmdsT]
        have HN' : Hid (badE (es.take (k + 1)) = false) := hbe
        rw [← hm] at hcv c1
        clear c0 hbe hcm hcl ha hT hTl hm hmx hsx hgx hgxl
        go_wp2_with fail
        go_roundg (n - (k + 1))
        case measure => omega
        case rel => exact ⟨k + 1, _, rfl, hlt, by go_num, rfl, HB.out, HU'.out, HN'.out⟩
    · obtain rfl : k = n := by omega
      have hd : ¬ (k : Int) < (k : Int) := by omega
      have ht : es.take k = es := List.take_of_length_le (by rw [← Hes.out, List.length_map, ← HN.out]; exact Nat.le_refl _)
      rw [ht] at HU HNb
      clear ht
      go_wp2_with fail
      try rw [Exit.noGoto_ret]
      go_ret2
      exact ⟨U, by rw [HNb.out]; rfl, fun _ => HU.out, HB.out⟩
end Go.Proofs.YtkkdplccneeaiaaGreatDoor
