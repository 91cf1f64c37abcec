/- The laws of layer 2 (base64): what is awake; B64Encodes. -/
import Derived.Test.YtgcdcodeaamlpaaDoorB64N
import Derived.Outline
import Derived.Lib.SlBytesConst
namespace Go.Proofs.YtgcdcodeaamlpaaDoor
open Go Go.RowKit

theorem sliceAt_new (w : World) (t : TypeId) (fr : Nat × Nat) (cs : Array Value) (l : List UInt8) (h : cs.toList = l.map byteV) : sliceAt (w.alloc (.cells cs t fr)) (some ⟨w.heap.size, 0, none⟩) l := by
  refine .inr ⟨w.heap.size, 0, rfl, by simp, fun j hj => ?_⟩
  simp only [World.cell?, heap_alloc_new]
  have : cs.toList[0 + j]? = some (byteV l[j]) := by rw [h, Nat.zero_add]; simp [hj]
  simpa using this
theorem str_eq {a b : ByteArray} (h : a.data.toList = b.data.toList) : (a.toList == b.toList) = true := by
  rw [ByteArray.toList_eq, ByteArray.toList_eq, h]
  simp
theorem bytesArg_string {W : World} {v : Value} {l : List UInt8} (h : bytesArg W v l) : (convert 22 9 v).run Tryd.prog W = .ok (.string ⟨l.toArray⟩) W := by
  obtain ⟨ao, cap, rfl, hc, hm, hs⟩ := h
  rcases hs with rfl | ⟨b, off, rfl, hlt, hcell⟩
  · rcases ao with _ | ad
    · exact run_convert_bytes_nil W 22 5 Tryd.underlying22 Tryd.underlying5 0 cap 9 Tryd.underlying9
    · refine run_convert_bytes_back W _ _ 5 ad cap [] Tryd.underlying22 Tryd.underlying5 Tryd.underlying9 fun j hj => ?_
      simp at hj
  · refine run_convert_bytes_back W _ _ 5 ⟨b, off, none⟩ cap l Tryd.underlying22 Tryd.underlying5 Tryd.underlying9 fun j hj => ?_
    rw [Addr.add_lit]
    exact hcell j hj

theorem awake_any (w : World) (ht : lets w) :
    Calls Tryd.prog 8 #[] w fun e w' => e = .returned (.bool true) ∧ Below w.heap.size w w' := by
  have HT := Lib.hid ht
  clear ht
  have HA := Lib.hid (sliceAt_new w 5 (7, 8) #[.int .u8 65, .int .u8 65, .int .u8 32, .int .u8 61, .int .u8 61, .int .u8 13, .int .u8 10] [65, 65, 32, 61, 61, 13, 10] rfl)
  have kc := fun (w : World) (C : Array Value) (n c : Nat) => Lib.run_convert_bytes_const (P := Tryd.prog) w 22 5 C n c Tryd.underlying22 Tryd.underlying5
  go_enter Tryd.func8, Tryd.ntmps8
  go_wp2_with fail
  refine (decode_any _ [65, 65, 32, 61, 61, 13, 10] _ (HA.out.arg (cap := 7) (by decide) (by decide)) (by decide) (HT.out.below ((Below.refl _ _).alloc (Nat.le_refl _) _))).mono ?_
  rintro e w1 ⟨u, rfl, hown, hb⟩
  have e1 : decS (bareS [65, 65, 32, 61, 61, 13, 10]) = some [0] := by decide
  rw [e1] at hown ⊢
  have HO := Lib.hid hown
  have HB : Hid (Below w.heap.size w w1) := ((Below.refl _ _).alloc (Nat.le_refl _) _).trans (hb.mono (by simp))
  obtain ⟨g, cap, rfl, hcap, hcm, hg1, hg2⟩ := ownsRow_slice HO.out (by decide)
  clear hown hb e1
  have HA2 := Lib.hid (sliceAt_new w1 5 (4, 5) #[.int .u8 65, .int .u8 66, .int .u8 61, .int .u8 61] [65, 66, 61, 61] rfl)
  go_wp2_with fail
  refine (decode_any _ [65, 66, 61, 61] _ (HA2.out.arg (cap := 4) (by decide) (by decide)) (by decide) ((HT.out.below HB.out).below ((Below.refl _ _).alloc (Nat.le_refl _) _))).mono ?_
  rintro e w2 ⟨u2, rfl, _, hb⟩
  have e1 : decS (bareS [65, 66, 61, 61]) = none := by decide
  rw [e1]
  have HB12 : Hid (Below w1.heap.size w1 w2) := ((Below.refl _ _).alloc (Nat.le_refl _) _).trans (hb.mono (by simp))
  have HB2 : Hid (Below w.heap.size w w2) := HB.out.trans (HB12.out.mono HB.out.size)
  have HO2 := Lib.hid (ownsRow_below HO.out HB12.out)
  clear e1 hb HA HA2 HO
  have HA3 := Lib.hid (sliceAt_new w2 5 (0, 0) #[.int .u8 0] [0] rfl)
  go_wp2_with fail
  refine (encode_any _ [0] 0 _ (HA3.out.arg (cap := 1) (by decide) (by decide)) (by decide) (by decide) (by decide) ((HT.out.below HB2.out).below ((Below.refl _ _).alloc (Nat.le_refl _) _))).mono ?_
  rintro e w3 ⟨u3, rfl, hown, hb⟩
  have e1 : lineS 0 (encS [0]) = [65, 65, 61, 61] := by decide
  rw [e1] at hown
  have hst := run_string_of_owned (P := Tryd.prog) Tryd.underlying22 Tryd.underlying5 Tryd.underlying9 hown
  have HB23 : Hid (Below w2.heap.size w2 w3) := ((Below.refl _ _).alloc (Nat.le_refl _) _).trans (hb.mono (by simp))
  have HB3 : Hid (Below w.heap.size w w3) := HB2.out.trans (HB23.out.mono HB2.out.size)
  have HO3 := Lib.hid (ownsRow_below HO2.out HB23.out)
  have hcell : w3.cell? ⟨g, 0, none⟩ = some (.int .u8 0) := HO3.out.cellAt 0 (by decide)
  clear e1 hb hown HO2 HA3
  go_wp2
  go_ret
  exact ⟨rfl, HB3.out⟩
end Go.Proofs.YtgcdcodeaamlpaaDoor
