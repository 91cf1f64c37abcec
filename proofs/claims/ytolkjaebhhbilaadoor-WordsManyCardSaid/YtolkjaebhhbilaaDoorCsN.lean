/- utf8.Valid at no bytes; []byte(s) of a text. -/
import Derived.Test.YtolkjaebhhbilaaDoorCsK
import Derived.Test.YtolkjaebhhbilaaDoorStrs
namespace Go.Proofs.YtolkjaebhhbilaaDoor
open Go Go.RowKit

set_option maxRecDepth 1000000 in
set_option maxHeartbeats 4000000 in
theorem validNil_any (ao : Option Addr) (cap : Nat) (w : World) (hm : cap ≤ 2 ^ 63 - 1) :
    Calls Tryd.prog 70 #[.slice ao 0 cap] w fun e w' => e = .returned (.bool true) ∧ Below w.heap.size w w' := by
  cases ao with
  | none =>
    by_cases h0 : cap = 0
    · subst h0
      go_enter Tryd.func70, Tryd.ntmps70
      go_wp2
      go_loopg [0] 1 (fun g s0 wx => g = 1 ∧ s0 = .slice none 0 0 ∧ w = wx)
      case atStart => exact ⟨rfl, rfl, rfl⟩
      case round =>
        obtain ⟨rfl, rfl, rfl⟩ := hrel
        go_wp2
        go_ret
        exact ⟨rfl, Below.refl _ _⟩
    · go_enter Tryd.func70, Tryd.ntmps70
      go_wp2
      go_loopg [0] 1 (fun g s0 wx => g = 1 ∧ s0 = .slice none 0 0 ∧ w = wx)
      case atStart => exact ⟨rfl, rfl, rfl⟩
      case round =>
        obtain ⟨rfl, rfl, rfl⟩ := hrel
        go_wp2
        go_ret
        exact ⟨rfl, Below.refl _ _⟩
  | some a =>
    go_enter Tryd.func70, Tryd.ntmps70
    go_wp2
    go_loopg [0] 1 (fun g s0 wx => g = 1 ∧ s0 = .slice (some a) 0 0 ∧ w = wx)
    case atStart => exact ⟨rfl, rfl, rfl⟩
    case round =>
      obtain ⟨rfl, rfl, rfl⟩ := hrel
      go_wp2
      go_ret
      exact ⟨rfl, Below.refl _ _⟩
theorem txtConv (w : World) (s : ByteArray) (hs : s.size ≤ 1000000) :
    ∃ W1 cap, (convert 94 26 (.string s)).run Tryd.prog w = .ok (.slice (some ⟨w.heap.size, 0, none⟩) s.size cap) W1 ∧ bytesArg W1 (.slice (some ⟨w.heap.size, 0, none⟩) s.size cap) s.data.toList ∧ Below w.heap.size w W1 :=
  conv_bytesArg w 94 26 5 s (by unfold maxLen; omega) Tryd.underlying94 Tryd.underlying26 Tryd.underlying5
end Go.Proofs.YtolkjaebhhbilaaDoor
