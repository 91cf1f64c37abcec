/-
  DERIVED. GIVEN WITH THE SEED: THE CARDS: each row of YtolkjaebhhbilaaGreatDoorRows.lean that lists a variable, with what it lists TIED to the program's text (the seventh form; the later family's looks); each row that meets fmt, with fmt's text TOLD by the authors' own Lean function (tested against real Go, not proved from fmt's source: count such statements apart). THE CARD IS WHAT COUNTS. Prove the row's statement (the work); the ties are given (YtolkjaebhhbilaaGreatDoorTie.lean); close each card by the builder's one call (the guide's Derived/Test/ToyasCard.lean, 'card_holds'). Laid BY PROGRAM, IN A SANDBOX (cutbox-door.mjs). By AI agents, Wed Nov 11 2026. No macro, syntax, notation, axiom, sorry.
-/
import Derived.Test.YtolkjaebhhbilaaGreatDoorRows
import GoSem.ClaimSeven
namespace Go.Proofs.YtolkjaebhhbilaaGreatDoor
namespace Rows

/-- THE TIED CARD OF 'letterboxlaw09.WordsDecodes'. -/
def wordsDecodesCard : Claim7 := { stood := { row := wordsDecodesRow, standIns := [], harness := (true, "2da16bc080177d2db03851f26fb1cf79cd86dee3dc6d53eed26c8d2a5448b4e9"), looks := true }, kinds := [], alts := [], laidByText := true, laidKinds := [.data, .data, .data, .data, .data, .sentinel, .sentinel, .pinned], laidTests := true, laidLooks := .later }
def WordsDecodesCardSaid : Prop := Claim7.holds Tryz.pinned (.plain (OpenSpec.ofChange wordsDecodesSpec)) wordsDecodesCard

/-- THE SECOND FORM's CARD OF 'letterboxlaw09.WordsDecodes'. -/
def wordsDecodesUptoCard : Claim7 := { stood := { row := wordsDecodesUptoRow, standIns := [], harness := (true, "2da16bc080177d2db03851f26fb1cf79cd86dee3dc6d53eed26c8d2a5448b4e9"), looks := true }, kinds := [], alts := [], laidByText := true, laidKinds := [.data, .data, .data, .data, .data, .sentinel, .sentinel, .pinned], laidTests := true, laidLooks := .later }
def WordsDecodesUptoCardSaid : Prop := Claim7.holds Tryz.pinned (.plain (OpenSpec.upto wordsDecodesSpec)) wordsDecodesUptoCard
end Rows
end Go.Proofs.YtolkjaebhhbilaaGreatDoor
