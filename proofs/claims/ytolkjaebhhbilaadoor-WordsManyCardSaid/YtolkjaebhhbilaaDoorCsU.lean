/- Contracts of package charset: a charset's reading and writing. -/
import Derived.Test.YtolkjaebhhbilaaDoorCsB
import Derived.Test.YtolkjaebhhbilaaDoorCsH
import Derived.Test.YtolkjaebhhbilaaDoorCsS
import Derived.Test.YtolkjaebhhbilaaDoorCsT
import Derived.Test.YtolkjaebhhbilaaDoorCsN
namespace Go.Proofs.YtolkjaebhhbilaaDoor
open Go Go.RowKit

/-- Bytes told, and whether. -/
def bytV (o : Option (List UInt8)) (v : Value) (w' : World) : Prop := match o with
  | some t => ∃ u, v = .tuple #[u, .bool true] ∧ bytesArg w' u t
  | none => v = .tuple #[.slice none 0 0, .bool false]
theorem rawArg_string {W : World} {v : Value} {l : List UInt8} (h : bytesArg W v l) : (convert 92 9 v).run Tryd.prog W = .ok (.string ⟨l.toArray⟩) W := by
  obtain ⟨ao, cap, rfl, hc, hm, hs⟩ := h
  rcases hs with rfl | ⟨b, off, rfl, hlt, hcell⟩
  · rcases ao with _ | ad
    · exact run_convert_bytes_nil W 92 5 Tryd.underlying92 Tryd.underlying5 0 cap 9 Tryd.underlying9
    · refine run_convert_bytes_back W _ _ 5 ad cap [] Tryd.underlying92 Tryd.underlying5 Tryd.underlying9 fun j hj => ?_
      simp at hj
  · refine run_convert_bytes_back W _ _ 5 ⟨b, off, none⟩ cap l Tryd.underlying92 Tryd.underlying5 Tryd.underlying9 fun j hj => ?_
    rw [Addr.add_lit]
    exact hcell j hj
theorem raw_ascii (v : Value) (l : List UInt8) (w : World) (hv : bytesArg w v l) (hl : l.length ≤ 100000) :
    Calls Tryd.prog 56 #[v] w fun e w' => e = .returned (textV (textK 1 l)) ∧ Below w.heap.size w w' := by
  have HR : Hid (Calls Tryd.prog 68 #[v, .int .i32 127] w fun e w' => e = .returned (textV (textK 1 l)) ∧ Below w.heap.size w w') := rawSingle_any 127 (by decide) v l w hv (by omega)
  obtain ⟨O, hO⟩ : ∃ O, O = textK 1 l := ⟨_, rfl⟩
  rw [← hO] at HR ⊢
  clear hO hv
  cases O with
  | none =>
    unfold textV at HR ⊢
    go_enter Tryd.func56, Tryd.ntmps56
    go_wp2_with fail
    with_reducible refine HR.out.mono ?_
    rintro e w1 ⟨rfl, hb1⟩
    go_wp2_with fail
    go_ret2
    exact ⟨rfl, hb1⟩
  | some t =>
    unfold textV at HR ⊢
    go_enter Tryd.func56, Tryd.ntmps56
    go_wp2_with fail
    with_reducible refine HR.out.mono ?_
    rintro e w1 ⟨rfl, hb1⟩
    go_wp2_with fail
    go_ret2
    exact ⟨rfl, hb1⟩
theorem txt_ascii (s : ByteArray) (w : World) (hl : s.size ≤ 100000) :
    Calls Tryd.prog 57 #[.string s] w fun e w' => (∃ v, e = .returned v ∧ bytV (bytesK 1 s.data.toList) v w') ∧ Below w.heap.size w w' := by
  have HR : Hid (Calls Tryd.prog 69 #[.string s, .int .i32 127] w fun e w' => (∃ v, e = .returned v ∧ singV (bytesK 1 s.data.toList) v w' w.heap.size w) ∧ Below w.heap.size w w') := txtSingle_any 127 (by decide) s w (by omega)
  obtain ⟨O, hO⟩ : ∃ O, O = bytesK 1 s.data.toList := ⟨_, rfl⟩
  rw [← hO] at HR ⊢
  clear hO
  cases O with
  | none =>
    go_enter Tryd.func57, Tryd.ntmps57
    go_wp2_with fail
    with_reducible refine HR.out.mono ?_
    rintro e w1 ⟨⟨v, rfl, hv⟩, hb1⟩
    unfold singV at hv
    subst hv
    go_wp2_with fail
    go_ret2
    exact ⟨⟨_, rfl, rfl⟩, hb1⟩
  | some t =>
    go_enter Tryd.func57, Tryd.ntmps57
    go_wp2_with fail
    with_reducible refine HR.out.mono ?_
    rintro e w1 ⟨⟨v, rfl, u, rfl, hown⟩, hb1⟩
    have HO := Lib.hid (bytesArg_owned hown)
    clear hown
    go_wp2_with fail
    go_ret2
    exact ⟨⟨_, rfl, _, rfl, HO.out⟩, hb1⟩
theorem raw_latin (v : Value) (l : List UInt8) (w : World) (hv : bytesArg w v l) (hl : l.length ≤ 100000) :
    Calls Tryd.prog 58 #[v] w fun e w' => e = .returned (textV (textK 2 l)) ∧ Below w.heap.size w w' := by
  have HR : Hid (Calls Tryd.prog 68 #[v, .int .i32 255] w fun e w' => e = .returned (textV (textK 2 l)) ∧ Below w.heap.size w w') := rawSingle_any 255 (by decide) v l w hv (by omega)
  obtain ⟨O, hO⟩ : ∃ O, O = textK 2 l := ⟨_, rfl⟩
  rw [← hO] at HR ⊢
  clear hO hv
  cases O with
  | none =>
    unfold textV at HR ⊢
    go_enter Tryd.func58, Tryd.ntmps58
    go_wp2_with fail
    with_reducible refine HR.out.mono ?_
    rintro e w1 ⟨rfl, hb1⟩
    go_wp2_with fail
    go_ret2
    exact ⟨rfl, hb1⟩
  | some t =>
    unfold textV at HR ⊢
    go_enter Tryd.func58, Tryd.ntmps58
    go_wp2_with fail
    with_reducible refine HR.out.mono ?_
    rintro e w1 ⟨rfl, hb1⟩
    go_wp2_with fail
    go_ret2
    exact ⟨rfl, hb1⟩
theorem txt_latin (s : ByteArray) (w : World) (hl : s.size ≤ 100000) :
    Calls Tryd.prog 59 #[.string s] w fun e w' => (∃ v, e = .returned v ∧ bytV (bytesK 2 s.data.toList) v w') ∧ Below w.heap.size w w' := by
  have HR : Hid (Calls Tryd.prog 69 #[.string s, .int .i32 255] w fun e w' => (∃ v, e = .returned v ∧ singV (bytesK 2 s.data.toList) v w' w.heap.size w) ∧ Below w.heap.size w w') := txtSingle_any 255 (by decide) s w (by omega)
  obtain ⟨O, hO⟩ : ∃ O, O = bytesK 2 s.data.toList := ⟨_, rfl⟩
  rw [← hO] at HR ⊢
  clear hO
  cases O with
  | none =>
    go_enter Tryd.func59, Tryd.ntmps59
    go_wp2_with fail
    with_reducible refine HR.out.mono ?_
    rintro e w1 ⟨⟨v, rfl, hv⟩, hb1⟩
    unfold singV at hv
    subst hv
    go_wp2_with fail
    go_ret2
    exact ⟨⟨_, rfl, rfl⟩, hb1⟩
  | some t =>
    go_enter Tryd.func59, Tryd.ntmps59
    go_wp2_with fail
    with_reducible refine HR.out.mono ?_
    rintro e w1 ⟨⟨v, rfl, u, rfl, hown⟩, hb1⟩
    have HO := Lib.hid (bytesArg_owned hown)
    clear hown
    go_wp2_with fail
    go_ret2
    exact ⟨⟨_, rfl, _, rfl, HO.out⟩, hb1⟩

/-- utf8.Valid of bytes that came in. -/
theorem utf8Valid_any (v : Value) (l : List UInt8) (w : World) (hv : bytesArg w v l) (hl : l.length ≤ 100000) (hT : Tryd.tabs w) :
    Calls Tryd.prog 70 #[v] w fun e w' => e = .returned (.bool (Lib.validD l)) ∧ Below w.heap.size w w' := by
  obtain ⟨ao, cap, rfl, hc, hm, hs⟩ := hv
  unfold maxLen at hm
  by_cases h0 : l.length = 0
  · have hl0 : l = [] := List.eq_nil_of_length_eq_zero h0
    subst hl0
    exact validNil_any ao cap w hm
  · rcases hs with h | ⟨b, off, rfl, hb, hcell⟩
    · rw [h] at h0; exact absurd rfl h0
    · exact valid_any b off l.length cap ⟨l.toArray⟩ w rfl hc hm hl hb (fun j hj => hcell j hj) hT
theorem valid_some {l : List UInt8} (h : Lib.validD l = true) : textK 3 l = some l := by unfold textK; rw [if_neg (by decide), if_pos rfl, if_pos h]
theorem valid_none {l : List UInt8} (h : Lib.validD l = false) : textK 3 l = none := by unfold textK; rw [if_neg (by decide), if_pos rfl, if_neg (by rw [h]; decide)]
theorem raw_unicode (v : Value) (l : List UInt8) (w : World) (hv : bytesArg w v l) (hl : l.length ≤ 100000) (hT : Tryd.tabs w) :
    Calls Tryd.prog 60 #[v] w fun e w' => e = .returned (textV (textK 3 l)) ∧ Below w.heap.size w w' := by
  have HVa := Lib.hid (utf8Valid_any v l w hv hl hT)
  have HV := Lib.hid hv
  obtain ⟨ao, cap, rfl, _, _, _⟩ := hv
  cases h : Lib.validD l with
  | true =>
    rw [h] at HVa
    rw [valid_some h]
    clear h
    go_enter Tryd.func60, Tryd.ntmps60
    go_wp2_with fail
    with_reducible refine HVa.out.mono ?_
    rintro e w1 ⟨rfl, hb1⟩
    have hcv : (convert 92 9 (.slice ao l.length cap)).run Tryd.prog w1 = .ok (.string ⟨l.toArray⟩) w1 := rawArg_string (HV.out.below hb1)
    have HB1 := Lib.hid hb1
    clear hb1
    go_wp2_with fail
    go_ret2
    exact ⟨rfl, HB1.out⟩
  | false =>
    rw [h] at HVa
    rw [valid_none h]
    clear h
    go_enter Tryd.func60, Tryd.ntmps60
    go_wp2_with fail
    with_reducible refine HVa.out.mono ?_
    rintro e w1 ⟨rfl, hb1⟩
    go_wp2_with fail
    go_ret2
    exact ⟨rfl, hb1⟩
theorem bytes_some {l : List UInt8} (h : Lib.validD l = true) : bytesK 3 l = some l := by unfold bytesK; rw [if_neg (by decide), if_pos rfl, if_pos h]
theorem bytes_none {l : List UInt8} (h : Lib.validD l = false) : bytesK 3 l = none := by unfold bytesK; rw [if_neg (by decide), if_pos rfl, if_neg (by rw [h]; decide)]
theorem txt_unicode (s : ByteArray) (w : World) (hl : s.size ≤ 100000) (hT : Tryd.tabs w) :
    Calls Tryd.prog 61 #[.string s] w fun e w' => (∃ v, e = .returned v ∧ bytV (bytesK 3 s.data.toList) v w') ∧ Below w.heap.size w w' := by
  have HVa := Lib.hid (Tryd.utf8_ValidString s w (by omega) hT)
  cases h : Lib.validD s.data.toList with
  | true =>
    rw [h] at HVa
    rw [bytes_some h]
    clear h
    go_enter Tryd.func61, Tryd.ntmps61
    go_wp2_with fail
    with_reducible refine HVa.out.mono ?_
    rintro e w1 ⟨rfl, hb1⟩
    obtain ⟨W1, cap1, hcv, harg, hbw⟩ := txtConv w1 s (by omega)
    have HB1 := Lib.hid (hb1.trans (hbw.mono hb1.size))
    have HU := Lib.hid harg
    clear hb1 hbw harg
    go_wp2_with fail
    go_ret2
    exact ⟨⟨_, rfl, _, rfl, HU.out⟩, HB1.out⟩
  | false =>
    rw [h] at HVa
    rw [bytes_none h]
    clear h
    go_enter Tryd.func61, Tryd.ntmps61
    go_wp2_with fail
    with_reducible refine HVa.out.mono ?_
    rintro e w1 ⟨rfl, hb1⟩
    go_wp2_with fail
    go_ret2
    exact ⟨⟨_, rfl, rfl⟩, hb1⟩
end Go.Proofs.YtolkjaebhhbilaaDoor
