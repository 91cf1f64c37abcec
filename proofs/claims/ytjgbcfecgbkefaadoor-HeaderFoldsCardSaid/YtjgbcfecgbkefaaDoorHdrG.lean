/- Contracts of package header: Value; whether a name is among some. -/
import Derived.Test.YtjgbcfecgbkefaaDoorHdrF
import Derived.Test.YtjgbcfecgbkefaaDoorStrs
namespace Go.Proofs.YtjgbcfecgbkefaaDoor
open Go Go.RowKit

def valueS (l : List UInt8) (fs : List Fld) (nm : List UInt8) : List UInt8 :=
  if h : fI nm fs < fs.length then bodyS l (fs[fI nm fs].b : Int) (fs[fI nm fs].t : Int) else []
set_option maxHeartbeats 1000000 in
theorem value_any (v vf : Value) (l : List UInt8) (fs : List Fld) (nm : ByteArray) (w : World) (hv : bytesArg w v l) (hbig : l.length ≤ 1048576) (hf : rowF w vf fs) (hs : shortF fs) :
    Calls Tryd.prog 9 #[v, vf, .string nm] w fun e w' => e = .returned (.string ⟨(valueS l fs nm.data.toList).toArray⟩) ∧ Below w.heap.size w w' := by
  have HV := Lib.hid hv
  obtain ⟨ao, cap, rfl, hc, hm, hsl⟩ := hv
  obtain ⟨fo, fc, rfl, hfc, hfm, _⟩ := hf.at
  have HF := Lib.hid hf
  unfold maxLen at hm hfm
  clear hf hsl
  by_cases h : fI nm.data.toList fs < fs.length
  · obtain ⟨x, hx⟩ : ∃ x, fs[fI nm.data.toList fs] = x := ⟨_, rfl⟩
    have HFi := Lib.hid (fun W h1 => find_yes (.slice fo fs.length fc) fs nm (fI nm.data.toList fs) x W h1 hs rfl h hx)
    have HBo := Lib.hid (fun W h1 => body_any (.slice ao l.length cap) l ⟨x.nm.toArray⟩ (x.f : Int) (x.b : Int) (x.t : Int) W h1 hbig)
    have HR : Hid (valueS l fs nm.data.toList = bodyS l (x.b : Int) (x.t : Int)) := by
      unfold Hid valueS
      rw [dif_pos h, hx]
    clear hx h
    go_enter Tryd.func9, Tryd.ntmps9
    go_wp2_with fail
    with_reducible refine (HFi.out _ HF.out).mono ?_
    rintro e w1 ⟨rfl, hb1⟩
    have HB1 := Lib.hid hb1
    clear hb1
    go_wp2_with fail
    with_reducible refine (HBo.out _ ?h1).mono ?_
    case h1 => exact bytesArg.below HV.out (HB1.out.alloc HB1.out.size _)
    rintro e w2 ⟨rfl, hb2⟩
    have HB2 : Hid (Below w.heap.size w w2) := (HB1.out.alloc HB1.out.size _).trans (hb2.mono (by have := HB1.out.size; simp; omega))
    clear hb2
    go_wp2_with fail
    go_ret
    exact ⟨ret_str (by rw [HR.out]), HB2.out⟩
  · have HFi := Lib.hid (fun W h1 => find_no (.slice fo fs.length fc) fs nm W h1 hs h)
    have HR : Hid (valueS l fs nm.data.toList = []) := by
      unfold Hid valueS
      rw [dif_neg h]
    clear h
    go_enter Tryd.func9, Tryd.ntmps9
    go_wp2_with fail
    with_reducible refine (HFi.out _ HF.out).mono ?_
    rintro e w1 ⟨rfl, hb1⟩
    have HB1 := Lib.hid hb1
    clear hb1
    go_wp2_with fail
    go_ret
    exact ⟨ret_str (by rw [HR.out]), HB1.out.alloc HB1.out.size _⟩

/-- Whether a name is one of some. -/
def inS (ns : List ByteArray) (nm : List UInt8) : Bool := ns.any (fun s => sameB nm s.data.toList)
set_option maxHeartbeats 1000000 in
theorem some1_any (x : List UInt8) (B : Nat) (nm : ByteArray) (w : World) (hc : w.cell? ⟨B, 0, none⟩ = some (.string ⟨x.toArray⟩)) (hs : x.length ≤ 1048576) :
    Calls Tryd.prog 19 #[.string nm, .pointer (some ⟨B, 0, none⟩)] w fun e w' => e = .returned (.bool (sameB x nm.data.toList)) ∧ ∃ q, w' = w.drewN q := by
  obtain ⟨A, hA⟩ : ∃ A : ByteArray, A = ⟨x.toArray⟩ := ⟨_, rfl⟩
  have hAl : A.data.toList = x := by rw [hA]
  have HSm := Lib.hid (fun W => same_any A nm W (by rw [← len_toList, hAl]; omega))
  rw [hAl] at HSm
  obtain ⟨z, hz⟩ : ∃ z, z = sameB x nm.data.toList := ⟨_, rfl⟩
  have hz' : decide (foldS x = foldS nm.data.toList) = z := hz.symm
  rw [hz'] at HSm
  rw [← hA] at hc
  rw [← hz]
  clear hA hAl hz hz'
  go_enter Tryd.func19, Tryd.ntmps19
  go_wp2_with fail
  with_reducible refine (HSm.out _).mono ?_
  rintro e w1 ⟨rfl, k, rfl⟩
  go_wp2_with fail
  go_ret
  exact ⟨rfl, k, rfl⟩
theorem among_in (v : Value) (ns : List ByteArray) (x : List UInt8) (B : Nat) (w : World) (hv : strsArg w v ns) (hc : w.cell? ⟨B, 0, none⟩ = some (.string ⟨x.toArray⟩)) (hs : x.length ≤ 1048576) :
    Calls Tryd.prog 18 #[v, .func (.func 19) #[] #[.pointer (some ⟨B, 0, none⟩)]] w fun e w' => e = .returned (.bool (inS ns x)) ∧ ∃ q, w' = w.drewN q := by
  have hB : B < w.heap.size := World.block_lt_of_cell? _ _ hc
  obtain ⟨ao, cap, rfl, h1, h2, h3, h4⟩ := hv
  rcases h4 with rfl | ⟨b, off, rfl, hb, hcell⟩
  · refine (Tryd.slices_ContainsFunc_empty (α := ByteArray) ao cap _ w).mono ?_
    rintro e w' ⟨rfl, rfl⟩
    exact ⟨rfl, 0, rfl⟩
  · refine (Tryd.slices_ContainsFunc (α := ByteArray) (fun s => .string s) (fun s => sameB x s.data.toList) 19 #[.pointer (some ⟨B, 0, none⟩)] (enters_of Tryd.func19 (by kernel_rfl) rfl) b off ns.length cap ns w ?_ (Nat.le_refl _) (by unfold maxLen at h2; omega) ?_).mono ?_
    · intro W s hW
      exact some1_any x B s W ((hW.cell (p := ⟨B, 0, none⟩) hB).trans hc) hs
    · intro j hj
      rw [hcell j hj]
      simp [hj]
    · rintro e w' ⟨rfl, q, rfl⟩
      rw [List.take_length]
      exact ⟨rfl, q, rfl⟩
end Go.Proofs.YtjgbcfecgbkefaaDoor
