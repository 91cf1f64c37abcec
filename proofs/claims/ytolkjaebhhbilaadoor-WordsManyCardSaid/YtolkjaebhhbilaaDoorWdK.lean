/- Small laws of my own, of no function: a text turned into bytes. -/
import Derived.Test.YtolkjaebhhbilaaDoorQB
import Derived.Test.YtolkjaebhhbilaaDoorStrs
import Derived.Test.YtolkjaebhhbilaaDoorApp
namespace Go.Proofs.YtolkjaebhhbilaaDoor
open Go Go.RowKit

theorem wpList_conv_bytes {P : Program} {ops : Array Oper} {rest : List Oper} {o : Oper} {a : Act} {w : World} {Q : Exit → Act → World → Prop} (hgd : o.guard = none) (x : Operand) (src dst e : TypeId) (ho : o.op = .convert src dst x)
    (s : ByteArray) (hx : a.eval x = .string s) (hs : P.underlying src = some .string) (hd : P.underlying dst = some (.slice e)) (he : P.underlying e = some (.int .u8))
    (h : ∀ W1 cap, rowAt W1 w.heap.size e (s.data.toList.map byteV) → Below w.heap.size w W1 → s.size ≤ cap → wpList P ops Q rest (a.put o.dst (.slice (some ⟨w.heap.size, 0, none⟩) s.size cap)) W1) : wpList P ops Q (o :: rest) a w := by
  obtain ⟨W1, cap, hrun, hrow, hb, hc⟩ := conv_bytes (P := P) w src dst e s hs hd he
  refine wpList_plain hgd fun K hK' => ?_
  unfold Oper.wp
  simp [execOp, ho, hx, hrun, Result.andThen]
  exact hK' _ _ (h W1 cap hrow hb hc)
theorem wpList_conv_arg {P : Program} {ops : Array Oper} {rest : List Oper} {o : Oper} {a : Act} {w : World} {Q : Exit → Act → World → Prop} (hgd : o.guard = none) (x : Operand) (src dst e : TypeId) (ho : o.op = .convert src dst x)
    (s : ByteArray) (hx : a.eval x = .string s) (hsz : s.size ≤ maxLen) (hs : P.underlying src = some .string) (hd : P.underlying dst = some (.slice e)) (he : P.underlying e = some (.int .u8))
    (h : ∀ W1 ao cap, sliceAt W1 ao s.data.toList → Below w.heap.size w W1 → s.size ≤ cap → cap ≤ maxLen → wpList P ops Q rest (a.put o.dst (.slice ao s.size cap)) W1) : wpList P ops Q (o :: rest) a w := by
  obtain ⟨W1, cap, hrun, ⟨ao, cap', e1, hc, hm, hsl⟩, hb⟩ := conv_bytesArg (P := P) w src dst e s hsz hs hd he
  rw [len_toList] at e1 hc
  cases e1
  refine wpList_plain hgd fun K hK' => ?_
  unfold Oper.wp
  simp [execOp, ho, hx, hrun, Result.andThen]
  exact hK' _ _ (h W1 _ cap hsl hb hc hm)
end Go.Proofs.YtolkjaebhhbilaaDoor
