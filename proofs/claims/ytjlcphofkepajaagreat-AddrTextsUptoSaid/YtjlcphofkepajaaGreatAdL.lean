/- Contracts of package addr: a group's items. -/
import Derived.Test.YtjlcphofkepajaaGreatAdK
namespace Go.Proofs.YtjlcphofkepajaaGreat
open Go Go.RowKit

set_option maxRecDepth 100000 in
set_option maxHeartbeats 2000000 in
theorem itemsG_any (base A B : Nat) (s : ByteArray) (ts : List Tok) (b : Bool) (al0 : List Adr) (w : World) (h : St w base B s ts b al0) (hA : w.cell? ⟨A, 0, none⟩ = some (.pointer (some ⟨B, 0, none⟩))) (hnA : ¬ ownR B w A) (hl : s.size ≤ 1000000000) (hn : al0.length + ts.length ≤ 1000000000000) :
    Calls Tryz.prog 14 #[.pointer (some ⟨B, 0, none⟩), .func (.func 36) #[] #[.pointer (some ⟨A, 0, none⟩)]] w (Does base B s b al0 w (itemsT wboxT (ts.length + 1) ts)) := by
  have HG := Lib.hid (fun t1 acc W h hA hnA (hq : (al0 ++ acc).length ≤ 1000000000000) => group1_any base A B s t1 b (al0 ++ acc) W h hA hnA hl hq)
  have HTk := Lib.hid (fun t1 acc W h => takesS_any base B s t1 b (al0 ++ acc) 44 44 rfl W h hl)
  have HS := Lib.hid h
  have HN := Lib.hid hnA
  have HCA := Lib.hid hA
  unfold Does at HG ⊢
  clear h hnA hA
  go_enter Tryz.func14, Tryz.ntmps14
  go_wp2_with fail
  go_loopg [] ts.length (fun g wr => ∃ (n : Nat) (t1 : List Tok) (acc : List Adr), g = t1.length ∧ t1.length < n ∧ acc.length + t1.length ≤ ts.length ∧ Hid (St wr base B s t1 b (al0 ++ acc)) ∧ Hid (Kp B w wr) ∧
    Hid (itemsT wboxT (ts.length + 1) ts = ((itemsT wboxT n t1).1, (itemsT wboxT n t1).2.1, acc ++ (itemsT wboxT n t1).2.2)))
  case atStart => exact ⟨ts.length + 1, ts, [], rfl, by omega, by simp, by rw [List.append_nil]; exact HS.out, Kp.refl _ _, rfl⟩
  case round =>
    obtain ⟨n, t1, acc, rfl, hn1, hal, HSr, HK, HE⟩ := hrel
    obtain ⟨n, rfl⟩ : ∃ n', n = n' + 1 := ⟨n - 1, by omega⟩
    have HX := Lib.hid (HG.out t1 acc wr HSr.out (HK.out.cell HCA.out HN.out).1 (HK.out.cell HCA.out HN.out).2 (by rw [List.length_append]; omega))
    have hf := wboxT_fair t1
    rcases hx : wboxT t1 with ⟨b1, t2, l⟩
    rw [hx] at HX hf
    cases b1 with
    | false =>
      have HP := Lib.hid (itemsT_bad (n := n) hx)
      clear hx hf
      go_wp2_with fail
      with_reducible refine HX.out.mono ?_
      rintro e w2 ⟨rfl, hs2, hk2⟩
      have HS2 := Lib.hid hs2
      have HK2 := Lib.hid (HK.out.trans hk2)
      clear hs2 hk2
      go_wp2_with fail
      go_ret
      rw [HE.out, HP.out]
      exact ⟨rfl, by rw [← List.append_assoc]; exact HS2.out, HK2.out⟩
    | true =>
      simp only [if_true, Nat.add_zero] at hf
      have HT := Lib.hid (fun W h => HTk.out t2 (acc ++ l) W h)
      have hlen := takesT_len 44 t2
      rcases hy : takesT 44 t2 with ⟨b2, t3⟩
      rw [hy] at HT hlen
      cases b2 with
      | false =>
        have HP := Lib.hid (itemsT_last (n := n) hx hy)
        clear hx hf hy hlen
        go_wp2_with fail
        with_reducible refine HX.out.mono ?_
        rintro e w2 ⟨rfl, hs2, hk2⟩
        rw [List.append_assoc] at hs2
        have HT2 := Lib.hid (HT.out w2 hs2)
        have HK2 := Lib.hid (HK.out.trans hk2)
        clear hs2 hk2
        go_wp2_with fail
        with_reducible refine HT2.out.mono ?_
        rintro e w3 ⟨rfl, hs3, hk3⟩
        have HS3 := Lib.hid hs3
        have HK3 := Lib.hid (HK2.out.trans hk3)
        clear hs3 hk3
        go_wp2_with fail
        go_ret
        rw [HE.out, HP.out]
        exact ⟨rfl, HS3.out, HK3.out⟩
      | true =>
        have HP := Lib.hid (itemsT_more (n := n) hx hy)
        have hlen3 : t3.length + 1 = t2.length := by simpa using hlen
        clear hx hy hlen
        go_wp2_with fail
        with_reducible refine HX.out.mono ?_
        rintro e w2 ⟨rfl, hs2, hk2⟩
        rw [List.append_assoc] at hs2
        have HT2 := Lib.hid (HT.out w2 hs2)
        have HK2 := Lib.hid (HK.out.trans hk2)
        clear hs2 hk2
        go_wp2_with fail
        with_reducible refine HT2.out.mono ?_
        rintro e w3 ⟨rfl, hs3, hk3⟩
        have HS3 := Lib.hid hs3
        have HK3 := Lib.hid (HK2.out.trans hk3)
        clear hs3 hk3
        go_wp2_with fail
        go_roundg t3.length
        case measure => omega
        case rel =>
          refine ⟨n, t3, acc ++ l, rfl, by omega, by rw [List.length_append]; omega, HS3.out, HK3.out, ?_⟩
          unfold Hid
          rw [HE.out, HP.out, List.append_assoc]
end Go.Proofs.YtjlcphofkepajaaGreat
