/- The laws of layer 11: DateInternal, whole. -/
import Derived.Test.YtfndidcoahammaaDoorDvE
import Derived.Test.YtfndidcoahammaaDoorDvD
namespace Go.Proofs.YtfndidcoahammaaDoor
open Go Go.RowKit
theorem dateInternal_any (sec zone : Int) (w : World) (h0 : -9223372036854775808 ≤ sec) (h1 : sec ≤ 9223372036854775807) (h2 : -9223372036854775808 ≤ zone) (h3 : zone ≤ 9223372036854775807) (hE : envD w) :
    Calls Tryd.prog 4 #[.agg #[.int .i64 sec, .int .i64 zone]] w fun e w' => e = .returned (.bool true) ∧ Below w.heap.size w w' := dateInternal_of int_ok sec zone w h0 h1 h2 h3 hE
end Go.Proofs.YtfndidcoahammaaDoor
