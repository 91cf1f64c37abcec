/-
  DERIVED. GIVEN WITH THE SEED: THE CARDS: each row of YtbphnlaoiikebaaGreatDoorRows.lean that lists a variable, with what it lists TIED to the program's text (the seventh form; the later family's looks); each row that meets fmt, with fmt's text TOLD by the authors' own Lean function (tested against real Go, not proved from fmt's source: count such statements apart). THE CARD IS WHAT COUNTS. Prove the row's statement (the work); the ties are given (YtbphnlaoiikebaaGreatDoorTie.lean); close each card by the builder's one call (the guide's Derived/Test/ToyasCard.lean, 'card_holds'). Laid BY PROGRAM, IN A SANDBOX (cutbox-door.mjs). By AI agents, Wed Nov 11 2026. No macro, syntax, notation, axiom, sorry.
-/
import Derived.Test.YtbphnlaoiikebaaGreatDoorRows
import GoSem.ClaimSeven
namespace Go.Proofs.YtbphnlaoiikebaaGreatDoor
namespace Rows

/-- THE TIED CARD OF 'letterboxlaw19.EnvelopeLists'. -/
def envelopeListsCard : Claim7 := { stood := { row := envelopeListsRow, standIns := [], harness := (true, "0ee5d3dd5d71bc15d20b5ea829d5c81bef74742274f5981b7f9b16a66df44573"), looks := true }, kinds := [], alts := [], laidByText := true, laidKinds := [.data, .data, .data, .data, .sentinel, .sentinel, .pinned], laidTests := true, laidLooks := .later }
def EnvelopeListsCardSaid : Prop := Claim7.holds Tryz.pinned (.plain (OpenSpec.ofChange envelopeListsSpec)) envelopeListsCard

/-- THE TIED CARD OF 'letterboxlaw19.EnvelopeTokens'. -/
def envelopeTokensCard : Claim7 := { stood := { row := envelopeTokensRow, standIns := [], harness := (true, "0ee5d3dd5d71bc15d20b5ea829d5c81bef74742274f5981b7f9b16a66df44573"), looks := true }, kinds := [], alts := [], laidByText := true, laidKinds := [.data, .data, .data, .data, .sentinel, .sentinel, .pinned], laidTests := true, laidLooks := .later }
def EnvelopeTokensCardSaid : Prop := Claim7.holds Tryz.pinned (.plain (OpenSpec.ofChange envelopeTokensSpec)) envelopeTokensCard

/-- THE TIED CARD OF 'letterboxlaw19.EnvelopePlain'. -/
def envelopePlainCard : Claim7 := { stood := { row := envelopePlainRow, standIns := [], harness := (true, "0ee5d3dd5d71bc15d20b5ea829d5c81bef74742274f5981b7f9b16a66df44573"), looks := true }, kinds := [], alts := [], laidByText := true, laidKinds := [.data, .data, .data, .data, .sentinel, .sentinel, .pinned], laidTests := true, laidLooks := .later }
def EnvelopePlainCardSaid : Prop := Claim7.holds Tryz.pinned (.plain (OpenSpec.ofChange envelopePlainSpec)) envelopePlainCard

/-- THE SECOND FORM's CARD OF 'letterboxlaw19.EnvelopeLists'. -/
def envelopeListsUptoCard : Claim7 := { stood := { row := envelopeListsUptoRow, standIns := [], harness := (true, "0ee5d3dd5d71bc15d20b5ea829d5c81bef74742274f5981b7f9b16a66df44573"), looks := true }, kinds := [], alts := [], laidByText := true, laidKinds := [.data, .data, .data, .data, .sentinel, .sentinel, .pinned], laidTests := true, laidLooks := .later }
def EnvelopeListsUptoCardSaid : Prop := Claim7.holds Tryz.pinned (.plain (OpenSpec.upto envelopeListsSpec)) envelopeListsUptoCard

/-- THE SECOND FORM's CARD OF 'letterboxlaw19.EnvelopeTokens'. -/
def envelopeTokensUptoCard : Claim7 := { stood := { row := envelopeTokensUptoRow, standIns := [], harness := (true, "0ee5d3dd5d71bc15d20b5ea829d5c81bef74742274f5981b7f9b16a66df44573"), looks := true }, kinds := [], alts := [], laidByText := true, laidKinds := [.data, .data, .data, .data, .sentinel, .sentinel, .pinned], laidTests := true, laidLooks := .later }
def EnvelopeTokensUptoCardSaid : Prop := Claim7.holds Tryz.pinned (.plain (OpenSpec.upto envelopeTokensSpec)) envelopeTokensUptoCard

/-- THE SECOND FORM's CARD OF 'letterboxlaw19.EnvelopePlain'. -/
def envelopePlainUptoCard : Claim7 := { stood := { row := envelopePlainUptoRow, standIns := [], harness := (true, "0ee5d3dd5d71bc15d20b5ea829d5c81bef74742274f5981b7f9b16a66df44573"), looks := true }, kinds := [], alts := [], laidByText := true, laidKinds := [.data, .data, .data, .data, .sentinel, .sentinel, .pinned], laidTests := true, laidLooks := .later }
def EnvelopePlainUptoCardSaid : Prop := Claim7.holds Tryz.pinned (.plain (OpenSpec.upto envelopePlainSpec)) envelopePlainUptoCard
end Rows
end Go.Proofs.YtbphnlaoiikebaaGreatDoor
