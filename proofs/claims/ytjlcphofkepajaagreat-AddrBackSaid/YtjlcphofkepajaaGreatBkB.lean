/- Statement AddrBack, for any texts. -/
import Derived.Test.YtjlcphofkepajaaGreatBkA
namespace Go.Proofs.YtjlcphofkepajaaGreat
open Go Go.RowKit

theorem ba_eta (s : ByteArray) : (⟨s.data.toList.toArray⟩ : ByteArray) = s := bytes_eq rfl
theorem rowAdx_owned {w : World} {base : Nat} {e : TypeId} {v : Value} {l : List Adr} (h : w.ownsRow base e 4 v l.length (adrCells l)) : rowAdx w v (l.map toX) := by
  obtain ⟨ao, cap, e, h1, h2, h3⟩ := rowAdr_owned h
  refine ⟨ao, cap, by rw [List.length_map]; exact e, by rw [List.length_map]; exact h1, h2, ?_⟩
  rcases h3 with rfl | ⟨g, e, hg, hc⟩
  · exact .inl rfl
  · refine .inr ⟨g, 0, e, hg, fun i hi => ?_⟩
    have hi' : i < l.length := by simpa using hi
    obtain ⟨c0, c1, c2, c3⟩ := hc i hi'
    simp only [List.getElem_map, Nat.zero_add]
    exact ⟨c0, c1, c2, c3⟩
theorem textA_len (M : Nat) : ∀ (l : List Adx) (p : Option Int), small l M → (textA p l).length ≤ l.length * (5 * M + 22)
  | [], _, _ => by simp [textA]
  | a :: l, p, h => by
    have ih := textA_len M l (some a.kind) (fun x hx => h x (List.mem_cons_of_mem _ hx))
    obtain ⟨h1, h2, h3⟩ := h a List.mem_cons_self
    have hi := itemX_len a
    have hs := sepL_len p a.kind
    show (sepL p a.kind ++ itemX a ++ textA (some a.kind) l).length ≤ (l.length + 1) * (5 * M + 22)
    simp only [List.length_append]
    rw [Nat.add_mul, Nat.one_mul]
    omega
theorem small_mono {l : List Adx} {M M' : Nat} (h : small l M) (hM : M ≤ M') : small l M' := fun a ha => by
  obtain ⟨h1, h2, h3⟩ := h a ha
  exact ⟨by omega, by omega, by omega⟩
def bxs (l0 l1 : List ByteArray) : List Bx := (l0.zip l1).map (fun p => (p.1.data.toList, p.2.data.toList))
theorem bxs_len {l0 l1 : List ByteArray} (h : l0.length ≤ l1.length) : (bxs l0 l1).length = l0.length := by simp [bxs]; omega
theorem bxs_at {l0 l1 : List ByteArray} {i : Nat} (h : i < (bxs l0 l1).length) (h0 : i < l0.length) (h1 : i < l1.length) : (bxs l0 l1)[i] = (l0[i].data.toList, l1[i].data.toList) := by simp [bxs]
theorem adr_snoc (P : List Adr) (l : List Bx) (b : Bx) (h : List UInt8) : adrCells (P ++ (l ++ [b]).map (bxA h)) = adrCells (P ++ l.map (bxA h)) ++ adrC (bxA h b) := by simp [adrCells]
theorem filter_snoc (s : ByteArray) (i : Nat) (h : i < s.size) : (s.data.toList.take (i + 1)).filter hostB = (s.data.toList.take i).filter hostB ++ (if hostB s[i] then [s[i]] else []) := by
  rw [take_snoc s i h, List.filter_append]
  congr 1
  by_cases hb : hostB s[i] = true
  · rw [if_pos hb]; simp [hb]
  · rw [if_neg hb]; simp [hb]
theorem host_yes1 {c : UInt8} (h1 : 97 ≤ c.toNat) (h2 : c.toNat ≤ 122) : hostB c = true := by unfold hostB; rw [decide_eq_true h1, decide_eq_true h2]; rfl
theorem host_no {c : UInt8} (h1 : ¬ (97 ≤ c.toNat ∧ c.toNat ≤ 122)) (h2 : c.toNat ≠ 46) (h3 : c.toNat ≠ 45) : hostB c = false := by
  unfold hostB
  have e1 : (c == 46) = false := by simpa using fun e : c = 46 => h2 (by rw [e]; rfl)
  have e2 : (c == 45) = false := by simpa using fun e : c = 45 => h3 (by rw [e]; rfl)
  rw [e1, e2]
  by_cases h4 : 97 ≤ c.toNat
  · rw [decide_eq_true h4, decide_eq_false (fun h5 => h1 ⟨h4, h5⟩)]; rfl
  · rw [decide_eq_false h4]; rfl
theorem byte_one (s : ByteArray) (i : Nat) (h : i < s.size) : (s.extract i (i + 1)).data.toList = [s[i]] := by
  rw [extract_toList, drop_cons s i h, Nat.add_sub_cancel_left]
  rfl

set_option maxRecDepth 100000 in
set_option maxHeartbeats 8000000 in
theorem back_true (v0 : Value) (l0 : List ByteArray) (v1 : Value) (l1 : List ByteArray) (hx : ByteArray) (w : World) (h0 : strsArg w v0 l0) (h1 : strsArg w v1 l1) (hl0 : l0.length ≤ 8) (hl1 : l0.length ≤ l1.length) (hh : hx.size ≤ 50) :
    Calls Tryz.prog 4 #[v0, v1, .string hx, .bool true] w fun e w' => e = .returned (.bool true) ∧ Below w.heap.size w w' := by
  have HAw := Lib.hid (awake_any10 w)
  obtain ⟨a0, cp0, rfl, hc0, hm0, hcell0⟩ := h0.at
  obtain ⟨a1, cp1, rfl, hc1, hm1, hcell1⟩ := h1.at
  have HC0 := Lib.hid hcell0
  have HC1 := Lib.hid hcell1
  unfold maxLen at hm0 hm1
  obtain ⟨i0, hi0, hz⟩ := Option.map_eq_some_iff.1 Tryz.infoAdr
  simp only [Prod.mk.injEq] at hz
  obtain ⟨hz0, hz1, hz2⟩ := hz
  have HBL := Lib.hid (bxs_len hl1)
  have HBAt := Lib.hid (fun i h h0 h1 => @bxs_at l0 l1 i h h0 h1)
  obtain ⟨n, hn⟩ : ∃ n, n = l0.length := ⟨_, rfl⟩
  obtain ⟨m, hm⟩ : ∃ m, m = l1.length := ⟨_, rfl⟩
  have q1 : ¬ (8 : Int) < (n : Int) := by omega
  have q2 : ¬ (m : Int) < (n : Int) := by omega
  have q3 : ¬ (50 : Int) < (hx.size : Int) := by omega
  have u1 : decide ((8 : Int) < (n : Int)) = false := decide_eq_false q1
  have u2 : decide (8 < n) = false := decide_eq_false (by omega)
  have u3 : decide ((m : Int) < (n : Int)) = false := decide_eq_false q2
  have u4 : decide (m < n) = false := decide_eq_false (by omega)
  have u5 : decide ((50 : Int) < (hx.size : Int)) = false := decide_eq_false q3
  have u6 : decide (50 < hx.size) = false := decide_eq_false (by omega)
  rw [← hn] at hc0 hl0 hl1 HBL ⊢
  rw [← hm] at hc1 hl1 ⊢
  have HN := Lib.hid hn
  have HM := Lib.hid hm
  clear hn hm hcell0 hcell1 h0 h1
  obtain ⟨HS, hHS⟩ : ∃ HS, HS = hostL hx.data.toList := ⟨_, rfl⟩
  have HHS := Lib.hid hHS
  clear hHS
  go_enter Tryz.func4, Tryz.ntmps4
  go_wp2_with fail
  with_reducible refine HAw.out.mono ?_
  rintro e w1 ⟨rfl, hb1⟩
  have HB1 := Lib.hid hb1
  clear hb1
  go_wp2_with fail
  go_loopg [10, 11] hx.size (fun g v10 v11 wr => ∃ (i : Nat) (H : ByteArray), g = hx.size - i ∧ i ≤ hx.size ∧ v11 = .int .i64 (i : Int) ∧ v10 = .string H ∧ H.size ≤ 1 + i ∧ Hid (H.data.toList = 104 :: (hx.data.toList.take i).filter hostB) ∧ w1 = wr)
  case atStart => exact ⟨0, ⟨#[104]⟩, by omega, by omega, rfl, rfl, by decide, rfl, rfl⟩
  case round =>
    obtain ⟨i, H, rfl, hi, rfl, rfl, hHs, HHt, rfl⟩ := hrel
    by_cases hlt : i < hx.size
    · have HF := Lib.hid (filter_snoc hx i hlt)
      have HB1c := Lib.hid (byte_one hx i hlt)
      have hcb := byte_lt hx[i]
      have he1 : (hx.extract i (i + 1)).size = 1 := by rw [extract_size' _ _ _ (by omega)]; omega
      by_cases c1 : 97 ≤ hx[i].toNat
      · have b1 : (97 : Int) ≤ ((hx[i].toNat : Nat) : Int) := by omega
        by_cases c2 : hx[i].toNat ≤ 122
        · have b2 : ((hx[i].toNat : Nat) : Int) ≤ 122 := by omega
          have hb : hostB hx[i] = true := host_yes1 c1 c2
          rw [hb] at HF
          clear hb c1 c2
          go_wp2_with fail
          go_roundg (hx.size - (i + 1))
          case measure => omega
          case rel =>
            refine ⟨i + 1, H ++ hx.extract i (i + 1), rfl, by omega, by go_num, rfl, by simp only [ByteArray.size_append, he1]; omega, ?_, rfl⟩
            unfold Hid
            rw [cat_toList, HHt.out, HF.out, HB1c.out]
            rfl
        · have b2 : ¬ ((hx[i].toNat : Nat) : Int) ≤ 122 := by omega
          have b3 : (((hx[i].toNat : Nat) : Int) == 46) = false := beq_no (by omega)
          have b4 : (((hx[i].toNat : Nat) : Int) == 45) = false := beq_no (by omega)
          have hb : hostB hx[i] = false := host_no (by omega) (by omega) (by omega)
          rw [hb] at HF
          clear hb c1 c2
          go_wp2_with fail
          go_roundg (hx.size - (i + 1))
          case measure => omega
          case rel =>
            refine ⟨i + 1, H, rfl, by omega, by go_num, rfl, by omega, ?_, rfl⟩
            unfold Hid
            rw [HHt.out, HF.out]
            simp
      · have b1 : ¬ (97 : Int) ≤ ((hx[i].toNat : Nat) : Int) := by omega
        by_cases c3 : hx[i].toNat = 46
        · have b3 : (((hx[i].toNat : Nat) : Int) == 46) = true := beq_yes (by omega)
          have hb : hostB hx[i] = true := by rw [show hx[i] = 46 from toNat_eq c3]; rfl
          rw [hb] at HF
          clear hb c1 c3
          go_wp2_with fail
          go_roundg (hx.size - (i + 1))
          case measure => omega
          case rel =>
            refine ⟨i + 1, H ++ hx.extract i (i + 1), rfl, by omega, by go_num, rfl, by simp only [ByteArray.size_append, he1]; omega, ?_, rfl⟩
            unfold Hid
            rw [cat_toList, HHt.out, HF.out, HB1c.out]
            rfl
        · have b3 : (((hx[i].toNat : Nat) : Int) == 46) = false := beq_no (by omega)
          by_cases c4 : hx[i].toNat = 45
          · have b4 : (((hx[i].toNat : Nat) : Int) == 45) = true := beq_yes (by omega)
            have hb : hostB hx[i] = true := by rw [show hx[i] = 45 from toNat_eq c4]; rfl
            rw [hb] at HF
            clear hb c1 c3 c4
            go_wp2_with fail
            go_roundg (hx.size - (i + 1))
            case measure => omega
            case rel =>
              refine ⟨i + 1, H ++ hx.extract i (i + 1), rfl, by omega, by go_num, rfl, by simp only [ByteArray.size_append, he1]; omega, ?_, rfl⟩
              unfold Hid
              rw [cat_toList, HHt.out, HF.out, HB1c.out]
              rfl
          · have b4 : (((hx[i].toNat : Nat) : Int) == 45) = false := beq_no (by omega)
            have hb : hostB hx[i] = false := host_no (by omega) c3 c4
            rw [hb] at HF
            clear hb c1 c3 c4
            go_wp2_with fail
            go_roundg (hx.size - (i + 1))
            case measure => omega
            case rel =>
              refine ⟨i + 1, H, rfl, by omega, by go_num, rfl, by omega, ?_, rfl⟩
              unfold Hid
              rw [HHt.out, HF.out]
              simp
    · have HHe : Hid (H.data.toList = HS) := by
        unfold Hid
        rw [HHt.out, HHS.out, List.take_of_length_le (by simp; omega)]
        rfl
      clear HHt
      go_wp2_with (at_builtin; refine wpList_append_own _ rfl _ _ 22 rfl w.heap.size 26 i0 (.agg #[.int .i64 0, .string ⟨#[]⟩, .string ⟨#[]⟩, .string ⟨#[]⟩]) 4 56 Tryz.underlying22 hi0 hz0 hz1 hz2 rfl (by decide) _ 0 [] rfl (World.ownsRow_nil _ _ _ _) ⟨w1.heap.size, 0, none⟩ 1 1 [.int .i64 1, .string ⟨#[103]⟩, .string ⟨#[]⟩, .string ⟨#[]⟩] rfl rfl (World.news_of_block (cs := #[.int .i64 1, .string ⟨#[103]⟩, .string ⟨#[]⟩, .string ⟨#[]⟩]) (heap_alloc_new w1 _)) (by simp [Value.oneCell']) (by unfold maxLen; omega) (by omega) (by have := HB1.out.size; simp; omega) ?_; intro v2 w2 hown2 hgrow2 _)
      have HO2 : Hid (w2.ownsRow w.heap.size 26 4 v2 1 (adrCells [begA])) := hown2
      have HB2 : Hid (Below w.heap.size w w2) := (HB1.out.alloc HB1.out.size _).grown hgrow2 (by have := HB1.out.size; simp; omega) (fun q hq => by cases hq)
      clear hown2 hgrow2
      go_loopg [12, 13] n (fun g v12 v13 wr => ∃ (i : Nat) (v : Value), v = v12 ∧ g = n - i ∧ i ≤ n ∧ v13 = .int .i64 (i : Int) ∧ Hid (wr.ownsRow w.heap.size 26 4 v (1 + i) (adrCells ([begA] ++ ((bxs l0 l1).take i).map (bxA HS)))) ∧ Hid (Below w.heap.size w wr) ∧ Hid (∀ b ∈ (bxs l0 l1).take i, b.1.length ≤ 50 ∧ b.2.length ≤ 50))
      case atStart => exact ⟨0, _, rfl, by omega, by omega, rfl, HO2.out, HB2.out, fun b hb => by simp at hb⟩
      case round =>
        obtain ⟨i, v2, rfl, rfl, hi, rfl, HO, HB, HSm⟩ := hrel
        by_cases hlt2 : i < n
        · have hi0l : i < l0.length := by rw [← HN.out]; exact hlt2
          have hi1l : i < l1.length := by rw [← HM.out]; omega
          obtain ⟨b0, off0, rfl, hg0, z0, _⟩ := HC0.out i hi0l
          obtain ⟨b1, off1, rfl, hg1, z1, _⟩ := HC1.out i hi1l
          have him : i < m := by omega
          have hE := HBAt.out i (by rw [HBL.out]; exact hlt2) hi0l hi1l
          have hT := List.take_succ_eq_append_getElem (l := bxs l0 l1) (i := i) (by rw [HBL.out]; exact hlt2)
          rw [hE] at hT
          obtain ⟨P, hP⟩ : ∃ P, P = l0[i] := ⟨_, rfl⟩
          obtain ⟨Q, hQ⟩ : ∃ Q, Q = l1[i] := ⟨_, rfl⟩
          rw [← hP] at z0 hT
          rw [← hQ] at z1 hT
          have c0 := (HB.out.cell (p := ⟨b0, off0 + i, none⟩) hg0).trans z0
          have c1 := (HB.out.cell (p := ⟨b1, off1 + i, none⟩) hg1).trans z1
          have HT := Lib.hid hT
          have hgr0 : b0 < wr.heap.size := Nat.lt_of_lt_of_le hg0 HB.out.size
          have hgr1 : b1 < wr.heap.size := Nat.lt_of_lt_of_le hg1 HB.out.size
          clear z0 z1 hE hT hP hQ
          by_cases hP50 : 50 < P.size
          · have r1 : decide ((50 : Int) < (P.size : Int)) = true := decide_eq_true (by omega)
            have r2 : (50 : Int) < (P.size : Int) := by omega
            clear hP50
            go_wp2_with fail
            go_ret
            exact ⟨rfl, HB.out⟩
          · have r1 : ¬ (50 : Int) < (P.size : Int) := by omega
            have r1' : decide ((50 : Int) < (P.size : Int)) = false := decide_eq_false r1
            by_cases hQ50 : 50 < Q.size
            · have r3 : decide ((50 : Int) < (Q.size : Int)) = true := decide_eq_true (by omega)
              have r4 : (50 : Int) < (Q.size : Int) := by omega
              clear hQ50
              go_wp2_with fail
              go_ret
              exact ⟨rfl, HB.out⟩
            · have r3 : ¬ (50 : Int) < (Q.size : Int) := by omega
              have r3' : decide ((50 : Int) < (Q.size : Int)) = false := decide_eq_false r3
              have HOx : Hid (∀ W, Below wr.heap.size wr W → W.ownsRow w.heap.size 26 4 v2 (1 + i) (adrCells ([begA] ++ ((bxs l0 l1).take i).map (bxA HS)))) := fun W hb => ownsRow_below HO.out hb
              have HSx : Hid (∀ W, Below wr.heap.size wr W → w.heap.size ≤ W.heap.size) := fun W hb => by have := hb.size; have := HB.out.size; omega
              have hne0 : ¬ b0 = wr.heap.size := by omega
              have hne1 : ¬ b1 = wr.heap.size := by omega
              have e0 : (wr.alloc (.cells #[.int .i64 0, .string P, .string Q, .string H] 26)).cell? ⟨b0, off0 + i, none⟩ = some (.string P) := (((Below.refl wr.heap.size wr).alloc (Nat.le_refl _) _).cell (p := ⟨b0, off0 + i, none⟩) hgr0).trans c0
              have e1 : (wr.alloc (.cells #[.int .i64 0, .string P, .string Q, .string H] 26)).cell? ⟨b1, off1 + i, none⟩ = some (.string Q) := (((Below.refl wr.heap.size wr).alloc (Nat.le_refl _) _).cell (p := ⟨b1, off1 + i, none⟩) hgr1).trans c1
              go_wp2_with fail
              go_region_law ((refine step_append_lies _ (by exact rfl) _ _ 22 (by exact rfl) w.heap.size 26 i0 (.agg #[.int .i64 0, .string ⟨#[]⟩, .string ⟨#[]⟩, .string ⟨#[]⟩]) 4 56 Tryz.underlying22 hi0 hz0 hz1 hz2 rfl (by decide) _ (1 + i) _ (by exact rfl) (HOx.out _ (by first | exact (Below.refl _ _).drew | exact (Below.refl _ _).drew.alloc (Nat.le_refl _) _ | exact ((Below.refl _ _).alloc (Nat.le_refl _) _).drew)) ⟨wr.heap.size, 0, none⟩ 1 1 [.int .i64 0, .string P, .string Q, .string H] (by exact rfl) rfl (World.news_of_block (cs := #[.int .i64 0, .string P, .string Q, .string H]) (heap_alloc_new wr _)) (by simp [Value.oneCell']) (by decide) (by unfold maxLen; omega) (by omega) (HSx.out _ (by first | exact (Below.refl _ _).drew | exact (Below.refl _ _).drew.alloc (Nat.le_refl _) _ | exact ((Below.refl _ _).alloc (Nat.le_refl _) _).drew)) _ rfl ?_; intro g7 cap7 w7 hown7 hgrow7 _ _))
              all_goals
                have HB7 : Hid (Below w.heap.size w w7) := (HB.out.trans (Below.mono (B := wr.heap.size) (by first | exact (Below.refl _ _).drew.alloc (Nat.le_refl _) _ | exact ((Below.refl _ _).alloc (Nat.le_refl _) _).drew) HB.out.size)).grown hgrow7 (by have := HB.out.size; simp; omega) (fun q hq => (HO.out.lt q hq).1)
                have HO7 := Lib.hid hown7
                clear hown7 hgrow7
                go_wp2_with fail
                go_roundg (n - (i + 1))
                case measure => omega
                case rel =>
                  refine ⟨i + 1, _, rfl, rfl, by omega, by go_num, wsCast HO7.out (by omega) ?_, HB7.out, ?_⟩
                  · rw [HT.out, adr_snoc]
                    congr 1
                    show [Value.int .i64 0, .string P, .string Q, .string H] = [Value.int .i64 0, .string ⟨P.data.toList.toArray⟩, .string ⟨Q.data.toList.toArray⟩, .string ⟨HS.toArray⟩]
                    rw [ba_eta, ba_eta, ← HHe.out, ba_eta]
                  · intro b hb
                    rw [HT.out] at hb
                    rcases List.mem_append.1 hb with hb | hb
                    · exact HSm.out b hb
                    · obtain rfl := List.mem_singleton.1 hb
                      exact ⟨by show P.data.toList.length ≤ 50; rw [len_toList]; omega, by show Q.data.toList.length ≤ 50; rw [len_toList]; omega⟩
        · have hTk : (bxs l0 l1).take i = bxs l0 l1 := List.take_of_length_le (by rw [HBL.out]; omega)
          have hin : i = n := by omega
          have HO3 : Hid (wr.ownsRow w.heap.size 26 4 v2 (1 + n) (adrCells ([begA] ++ (bxs l0 l1).map (bxA HS)))) := by
            have := HO.out
            rw [hTk, hin] at this
            exact this
          have HSm3 : Hid (∀ b ∈ bxs l0 l1, b.1.length ≤ 50 ∧ b.2.length ≤ 50) := by
            have := HSm.out
            rw [hTk] at this
            exact this
          have hHSl : HS.length ≤ 51 := by rw [← HHe.out, len_toList]; omega
          obtain ⟨L, hL⟩ : ∃ L, L = (begA :: (bxs l0 l1).map (bxA HS) ++ [endA]) := ⟨_, rfl⟩
          have hLn : L.length = n + 2 := by rw [hL]; simp [HBL.out]
          have hsm : small (L.map toX) 51 := by
            intro a ha
            obtain ⟨x, hx2, rfl⟩ := List.mem_map.1 ha
            rw [hL] at hx2
            have hcase : x = begA ∨ x = endA ∨ x ∈ (bxs l0 l1).map (bxA HS) := by
              rcases List.mem_append.1 hx2 with hx2 | hx2
              · rcases List.mem_cons.1 hx2 with hx2 | hx2
                · exact .inl hx2
                · exact .inr (.inr hx2)
              · exact .inr (.inl (List.mem_singleton.1 hx2))
            rcases hcase with rfl | rfl | hx2
            · exact ⟨by decide, by decide, by decide⟩
            · exact ⟨by decide, by decide, by decide⟩
            · obtain ⟨b, hb, rfl⟩ := List.mem_map.1 hx2
              obtain ⟨s1, s2⟩ := HSm3.out b hb
              exact ⟨by show b.1.length ≤ 51; omega, by show b.2.length ≤ 51; omega, hHSl⟩
          have hlt0 : listA (textA none (L.map toX)) = some L := by rw [hL, HHS.out]; exact back_group hx.data.toList (bxs l0 l1)
          have htl := textA_len 51 (L.map toX) none hsm
          have htl2 : (textA none (L.map toX)).length ≤ 100000 := by
            rw [List.length_map, hLn] at htl
            have : (n + 2) * (5 * 51 + 22) ≤ 10 * (5 * 51 + 22) := Nat.mul_le_mul_right _ (by omega)
            omega
          have HTx := Lib.hid (fun v W (h : rowAdx W v (L.map toX)) => text_any10 v (L.map toX) W h (small_mono hsm (by decide)) (by rw [List.length_map]; omega))
          obtain ⟨S, hS⟩ : ∃ S : ByteArray, S = ⟨(textA none (L.map toX)).toArray⟩ := ⟨_, rfl⟩
          rw [← hS] at HTx
          have HLs := Lib.hid (fun W => list_some S L W (by rw [hS]; show (textA none (L.map toX)).length ≤ _; omega) (by rw [hS]; exact hlt0))
          have HLl := Lib.hid hLn
          have HOL : Hid (∀ (v : Value) (W : World), W.ownsRow w.heap.size 26 4 v (1 + n + 1) (adrCells ([begA] ++ (bxs l0 l1).map (bxA HS)) ++ [.int .i64 2, .string ⟨#[]⟩, .string ⟨#[]⟩, .string ⟨#[]⟩]) → W.ownsRow w.heap.size 26 4 v L.length (adrCells L)) := by
            intro v W h
            refine wsCast h (by rw [hLn]; omega) ?_
            rw [hL, adrCells_app _ [endA], adrCells_one]
            rfl
          clear hTk hin hL hLn hsm hlt0 htl htl2 hS HO HSm hHSl
          go_wp2_with (at_builtin; refine wpList_append_own _ rfl _ _ 22 rfl w.heap.size 26 i0 (.agg #[.int .i64 0, .string ⟨#[]⟩, .string ⟨#[]⟩, .string ⟨#[]⟩]) 4 56 Tryz.underlying22 hi0 hz0 hz1 hz2 rfl (by decide) _ (1 + n) _ rfl (HO3.out.alloc _) ⟨wr.heap.size, 0, none⟩ 1 1 [.int .i64 2, .string ⟨#[]⟩, .string ⟨#[]⟩, .string ⟨#[]⟩] rfl rfl (World.news_of_block (cs := #[.int .i64 2, .string ⟨#[]⟩, .string ⟨#[]⟩, .string ⟨#[]⟩]) (heap_alloc_new wr _)) (by simp [Value.oneCell']) (by unfold maxLen; omega) (by omega) (by have := HB.out.size; simp; omega) ?_; intro v4 w4 hown4 hgrow4 _)
          have HB4 : Hid (Below w.heap.size w w4) := (HB.out.alloc HB.out.size _).grown hgrow4 (by have := HB.out.size; simp; omega) (fun q hq => (HO3.out.lt q hq).1)
          have HO4 := Lib.hid (HOL.out v4 w4 hown4)
          clear hown4 hgrow4
          obtain ⟨N, hNL⟩ : ∃ N, N = L.length := ⟨_, rfl⟩
          have HNL := Lib.hid hNL
          have hNs : N ≤ 10 := by rw [hNL, HLl.out]; omega
          clear hNL
          obtain ⟨ao4, cap4, rfl, hc4, hm4, _⟩ := rowAdr_owned HO4.out
          rw [← HNL.out] at hc4
          unfold maxLen at hm4
          rw [← HNL.out] at HO4
          have HT4 := Lib.hid (HTx.out _ w4 (rowAdx_owned (by rw [HNL.out] at HO4; exact HO4.out)))
          rw [← HNL.out] at HT4 ⊢
          go_wp2_with fail
          with_reducible refine HT4.out.mono ?_
          rintro e w5 ⟨rfl, hb5⟩
          have HB5 : Hid (Below w.heap.size w w5) := HB4.out.trans (hb5.mono HB4.out.size)
          have HR5 : Hid (rowAdr w5 (.slice ao4 N cap4) L) := (rowAdr_owned (by rw [HNL.out] at HO4; exact HO4.out) |>.below hb5) |> fun h => by rw [HNL.out]; exact h
          clear hb5
          go_wp2_with fail
          with_reducible refine (HLs.out _).mono ?_
          rintro e w6 ⟨v6, rfl, hr6, hb6⟩
          have HB6 : Hid (Below w.heap.size w w6) := HB5.out.trans (hb6.mono HB5.out.size)
          obtain ⟨_, _, e4, _, _, hcs4⟩ := (HR5.out.below hb6).at
          obtain ⟨ao6, cap6, rfl, hc6, hm6, hcs6⟩ := hr6.at
          rw [← HNL.out] at hc6 ⊢
          unfold maxLen at hm6
          injection e4 with e4 _ e5
          subst e4 e5
          have HC4 := Lib.hid hcs4
          have HC6 := Lib.hid hcs6
          have bnn : (((N : Nat) : Int) != ((N : Nat) : Int)) = false := by rw [bne, beq_yes rfl]; rfl
          clear hb6 hr6 hcs4 hcs6
          go_wp2_with fail
          go_loopg [16] N (fun g v16 wr => ∃ (i : Nat), g = N - i ∧ i ≤ N ∧ v16 = .int .i64 (i : Int) ∧ Hid (Below w6.heap.size w6 wr))
          case atStart => exact ⟨0, by omega, by omega, rfl, Below.refl _ _⟩
          case round =>
            obtain ⟨i3, rfl, hi3, rfl, HBr⟩ := hrel
            by_cases hlt3 : i3 < N
            · have hil : i3 < L.length := by rw [← HNL.out]; exact hlt3
              obtain ⟨ga, rfl, hga, z0, z1, z2, z3⟩ := HC4.out i3 hil
              obtain ⟨gb, rfl, hgb, y0, y1, y2, y3⟩ := HC6.out i3 hil
              have p0 := (HBr.out.cell (p := ⟨ga, i3 * 4, none⟩) hga).trans z0
              have p1 := (HBr.out.cell (p := ⟨ga, i3 * 4 + 1, none⟩) hga).trans z1
              have p2 := (HBr.out.cell (p := ⟨ga, i3 * 4 + 2, none⟩) hga).trans z2
              have p3 := (HBr.out.cell (p := ⟨ga, i3 * 4 + 3, none⟩) hga).trans z3
              have t0 := (HBr.out.cell (p := ⟨gb, i3 * 4, none⟩) hgb).trans y0
              have t1 := (HBr.out.cell (p := ⟨gb, i3 * 4 + 1, none⟩) hgb).trans y1
              have t2 := (HBr.out.cell (p := ⟨gb, i3 * 4 + 2, none⟩) hgb).trans y2
              have t3 := (HBr.out.cell (p := ⟨gb, i3 * 4 + 3, none⟩) hgb).trans y3
              obtain ⟨K, hK⟩ : ∃ K : Int, K = ((L[i3]).kind : Int) := ⟨_, rfl⟩
              obtain ⟨S1, hS1⟩ : ∃ S : ByteArray, S = ⟨(L[i3]).name.toArray⟩ := ⟨_, rfl⟩
              obtain ⟨S2, hS2⟩ : ∃ S : ByteArray, S = ⟨(L[i3]).loc.toArray⟩ := ⟨_, rfl⟩
              obtain ⟨S3, hS3⟩ : ∃ S : ByteArray, S = ⟨(L[i3]).host.toArray⟩ := ⟨_, rfl⟩
              rw [← hK] at p0 t0
              rw [← hS1] at p1 t1
              rw [← hS2] at p2 t2
              rw [← hS3] at p3 t3
              clear z0 z1 z2 z3 y0 y1 y2 y3 hil hK hS1 hS2 hS3
              go_wp2_with fail
              go_quiet (fail)
              go_wp2_with fail
              go_roundg (N - (i3 + 1))
              case measure => omega
              case rel => exact ⟨i3 + 1, rfl, by omega, by go_num, HBr.out.trans ((below_drewN' _).mono HBr.out.size)⟩
            · go_wp2_with fail
              go_ret
              exact ⟨rfl, HB6.out.trans (HBr.out.mono HB6.out.size)⟩
end Go.Proofs.YtjlcphofkepajaaGreat
