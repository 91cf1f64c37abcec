/- The laws of layer 11: DateDays and DateZones. -/
import Derived.Test.YtfndidcoahammaaDoorDvB
import Derived.Test.YtfndidcoahammaaDoorDvC
import Derived.Test.YtfndidcoahammaaDoorDtX
namespace Go.Proofs.YtfndidcoahammaaDoor
open Go Go.RowKit
theorem int_ok : IntOk := fun sec zone w a b c d h => internal_any sec zone w a b c d h
theorem dateDays_any (n : Nat) (w : World) (hn : n ≤ 4294967295) (hE : envD w) :
    Calls Tryd.prog 5 #[.int .u32 (n : Int)] w fun e w' => e = .returned (.bool true) ∧ Below w.heap.size w w' := dateDays_of int_ok n hn w hE
theorem dateZones_any (n : Nat) (a b : Int) (w : World) (hn : n ≤ 4294967295) (ha0 : -32768 ≤ a) (ha1 : a ≤ 32767) (hb0 : -32768 ≤ b) (hb1 : b ≤ 32767) (hE : envD w) :
    Calls Tryd.prog 6 #[.int .u32 (n : Int), .int .i16 a, .int .i16 b] w fun e w' => e = .returned (.bool true) ∧ Below w.heap.size w w' := dateZones_of int_ok n hn a b ha0 ha1 hb0 hb1 w hE
end Go.Proofs.YtfndidcoahammaaDoor
