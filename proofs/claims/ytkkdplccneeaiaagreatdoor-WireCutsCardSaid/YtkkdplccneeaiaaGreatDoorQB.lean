/- A law of my own, of no function: a region that draws its order, whose callees only make memory: one walk, in the order of the text. -/
import Derived.Test.YtkkdplccneeaiaaGreatDoorKit2
import Derived.BigQuiet
namespace Go.Proofs.YtkkdplccneeaiaaGreatDoor
open Go Go.RowKit

/-- A world behind w, in which all that lay in w lies as it lay. -/
structure BW (w : World) where
  v : World
  h : Below w.heap.size w v
instance bwNonempty (w : World) : Nonempty (BW w) := ⟨⟨w, Below.refl _ _⟩⟩
theorem wp_region_below {P : Program} {id : Nat} {Q : Exit → Act → World → Prop} {a : Act} {w : World} {l : List Oper} (hm : P.follows .mixedOrders = true) (hB : Region.lexB .any l.toArray = true)
    (h : wpQuiet P l.toArray (fun w' => ∃ z : BW w, w' = z.v) (fun a' => ∀ w', (∃ z : BW w, w' = z.v) → Q .normal a' w') l a) : (Code.region id l.toArray true).wp P Q a w :=
  wp_region_quiet (C := fun w' => ∃ z : BW w, w' = z.v) hm hB ⟨⟨w.drew, (Below.refl _ _).drew⟩, rfl⟩ (by simpa using h)
theorem BW.calls {P : Program} {f : FuncId} {args : Array Value} {w : World} {z : BW w} {v : Value} (h : Calls P f args z.v fun e w' => e = .returned v ∧ Below z.v.heap.size z.v w') :
    Calls P f args z.v fun e w'' => e = .returned v ∧ ∃ z' : BW w, w'' = z'.v :=
  h.mono fun _ w' ⟨he, hb⟩ => ⟨he, ⟨⟨w', z.h.trans (hb.mono z.h.size)⟩, rfl⟩⟩
theorem BW.calls_same {P : Program} {f : FuncId} {args : Array Value} {w : World} {z : BW w} {v : Value} (h : Calls P f args z.v fun e w' => e = .returned v ∧ z.v = w') :
    Calls P f args z.v fun e w'' => e = .returned v ∧ ∃ z' : BW w, w'' = z'.v :=
  h.mono fun _ _ ⟨he, hb⟩ => ⟨he, ⟨z, hb.symm⟩⟩
theorem BW.cell {w : World} {a : Addr} {u : Value} (h : w.cell? a = some u) (z : BW w) : z.v.cell? a = some u :=
  (z.h.cell (World.block_lt_of_cell? w a h)).trans h
end Go.Proofs.YtkkdplccneeaiaaGreatDoor
