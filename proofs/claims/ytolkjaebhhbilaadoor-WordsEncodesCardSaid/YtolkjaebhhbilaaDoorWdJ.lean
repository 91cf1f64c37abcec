/- Statement WordsEncodes: any text as encoded words is the document's; one in UTF-8 is decoded as it was. -/
import Derived.Test.YtolkjaebhhbilaaDoorWdI
import Derived.Test.YtolkjaebhhbilaaDoorWdH
import Derived.Test.YtolkjaebhhbilaaDoorCsT
namespace Go.Proofs.YtolkjaebhhbilaaDoor
open Go Go.RowKit

theorem encodeL_len (l : List UInt8) : (encodeL l).length ≤ 17 * l.length := by
  have := encA_len l.length l (Nat.le_refl _)
  unfold encodeL
  rw [List.length_drop]
  omega
set_option maxRecDepth 100000 in
set_option maxHeartbeats 4000000 in
theorem wordsEncodes_any (s : ByteArray) (w : World) (_hs : s.size ≤ 9223372036854775807) (hE : env w) :
    Calls Tryd.prog 3 #[.string s] w fun e w' => e = .returned (.bool true) ∧ Below w.heap.size w w' := by
  have HAw := Lib.hid (awake_any w hE)
  have HEn := Lib.hid hE
  clear hE
  by_cases h1 : 300 < s.size
  · have q2 : (300 : Int) < (s.size : Int) := by omega
    go_enter Tryd.func3, Tryd.ntmps3
    go_wp2_with fail
    with_reducible refine HAw.out.mono ?_
    rintro e w1 ⟨rfl, hb1⟩
    go_wp2_with fail
    go_ret
    exact ⟨rfl, hb1⟩
  have q2 : ¬ (300 : Int) < (s.size : Int) := by omega
  obtain ⟨L, hL⟩ : ∃ L, L = s.data.toList := ⟨_, rfl⟩
  have hLl : L.length = s.size := by rw [hL, len_toList]
  have hel := encodeL_len L
  obtain ⟨E, hE⟩ : ∃ E : ByteArray, E = ⟨(encodeL L).toArray⟩ := ⟨_, rfl⟩
  have hEl : E.data.toList = encodeL L := by rw [hE]
  have hEs : E.size ≤ 100000 := by rw [bytes_len, hEl]; omega
  have HEc := Lib.hid (fun W (hb : Below w.heap.size w W) => Encode_any s W (by omega) (HEn.out.below hb))
  have HVa := Lib.hid (fun W => refValid_any s W (by omega))
  have HRe := Lib.hid (fun W => refEncode_any s W (by omega))
  have HDe := Lib.hid (fun W (hb : Below w.heap.size w W) => Decode_any E W hEs (HEn.out.below hb))
  rw [← hL] at HEc HVa HRe
  rw [← hE] at HEc
  rw [hEl] at HDe
  have HEl := Lib.hid hEl
  have HLs : Hid (s.data.toList = L) := hL.symm
  clear hEl hE hEs hel hLl hL
  cases hv : Lib.validD L with
  | true =>
    rw [hv] at HVa
    rw [back_utf L hv] at HDe
    have q3 : ((⟨L.toArray⟩ : ByteArray).toList == s.toList) = true := str_eq (by rw [HLs.out])
    obtain ⟨D, hD⟩ : ∃ D : ByteArray, D = ⟨L.toArray⟩ := ⟨_, rfl⟩
    rw [← hD] at HDe q3
    clear hv hD
    go_enter Tryd.func3, Tryd.ntmps3
    go_wp2_with fail
    with_reducible refine HAw.out.mono ?_
    rintro e w1 ⟨rfl, hb1⟩
    have HB1 := Lib.hid hb1
    clear hb1
    go_wp2_with fail
    with_reducible refine (HEc.out _ HB1.out).mono ?_
    rintro e w2 ⟨rfl, hb2⟩
    have HB2 := Lib.hid (HB1.out.trans (hb2.mono HB1.out.size))
    clear hb2
    go_wp2_with fail
    with_reducible refine (HVa.out _).mono ?_
    rintro e w3 ⟨rfl, hb3⟩
    have HB3 := Lib.hid (HB2.out.trans (hb3.mono HB2.out.size))
    clear hb3
    go_wp2_with fail
    with_reducible refine (HRe.out _).mono ?_
    rintro e w4 ⟨T, rfl, hT, rfl⟩
    have q4 : (E.toList == T.toList) = true := str_eq (by rw [HEl.out, hT])
    clear hT
    go_wp2_with fail
    with_reducible refine (HDe.out _ HB3.out).mono ?_
    rintro e w5 ⟨rfl, hb5⟩
    have HB5 := Lib.hid (HB3.out.trans (hb5.mono HB3.out.size))
    clear hb5
    go_wp2_with fail
    go_ret
    exact ⟨rfl, HB5.out⟩
  | false =>
    rw [hv] at HVa
    clear hv HDe
    go_enter Tryd.func3, Tryd.ntmps3
    go_wp2_with fail
    with_reducible refine HAw.out.mono ?_
    rintro e w1 ⟨rfl, hb1⟩
    have HB1 := Lib.hid hb1
    clear hb1
    go_wp2_with fail
    with_reducible refine (HEc.out _ HB1.out).mono ?_
    rintro e w2 ⟨rfl, hb2⟩
    have HB2 := Lib.hid (HB1.out.trans (hb2.mono HB1.out.size))
    clear hb2
    go_wp2_with fail
    with_reducible refine (HVa.out _).mono ?_
    rintro e w3 ⟨rfl, hb3⟩
    have HB3 := Lib.hid (HB2.out.trans (hb3.mono HB2.out.size))
    clear hb3
    go_wp2_with fail
    with_reducible refine (HRe.out _).mono ?_
    rintro e w4 ⟨T, rfl, hT, rfl⟩
    have q4 : (E.toList == T.toList) = true := str_eq (by rw [HEl.out, hT])
    clear hT
    go_wp2_with fail
    go_ret
    exact ⟨rfl, HB3.out⟩
end Go.Proofs.YtolkjaebhhbilaaDoor
