/-
  DERIVED. GIVEN WITH THE SEED: THE CARDS: each row of YteallnjbpikhhaaGreatDoorRows.lean that lists a variable, with what it lists TIED to the program's text (the seventh form; the later family's looks); each row that meets fmt, with fmt's text TOLD by the authors' own Lean function (tested against real Go, not proved from fmt's source: count such statements apart). THE CARD IS WHAT COUNTS. Prove the row's statement (the work); the ties are given (YteallnjbpikhhaaGreatDoorTie.lean); close each card by the builder's one call (the guide's Derived/Test/ToyasCard.lean, 'card_holds'). Laid BY PROGRAM, IN A SANDBOX (cutbox-door.mjs). By AI agents, Wed Nov 11 2026. No macro, syntax, notation, axiom, sorry.
-/
import Derived.Test.YteallnjbpikhhaaGreatDoorRows
import GoSem.ClaimSeven
namespace Go.Proofs.YteallnjbpikhhaaGreatDoor
namespace Rows

/-- THE TIED CARD OF 'letterboxlaw17.BinaryBack'. -/
def binaryBackCard : Claim7 := { stood := { row := binaryBackRow, standIns := [], harness := (true, "5238280fadd73aa1b6d88c236cfb34d701b2e12b2c57e9c19324d277712da779"), looks := true }, kinds := [], alts := [], laidByText := true, laidKinds := [.data, .data, .data, .data, .data, .sentinel, .sentinel, .pinned], laidTests := true, laidLooks := .later }
def BinaryBackCardSaid : Prop := Claim7.holds Tryz.pinned (.plain (OpenSpec.ofChange binaryBackSpec)) binaryBackCard

/-- THE TIED CARD OF 'letterboxlaw17.BinaryWhole'. -/
def binaryWholeCard : Claim7 := { stood := { row := binaryWholeRow, standIns := [], harness := (true, "5238280fadd73aa1b6d88c236cfb34d701b2e12b2c57e9c19324d277712da779"), looks := true }, kinds := [], alts := [], laidByText := true, laidKinds := [.data, .data, .data, .data, .data, .sentinel, .sentinel, .pinned], laidTests := true, laidLooks := .later }
def BinaryWholeCardSaid : Prop := Claim7.holds Tryz.pinned (.plain (OpenSpec.ofChange binaryWholeSpec)) binaryWholeCard

/-- THE SECOND FORM's CARD OF 'letterboxlaw17.BinaryBack'. -/
def binaryBackUptoCard : Claim7 := { stood := { row := binaryBackUptoRow, standIns := [], harness := (true, "5238280fadd73aa1b6d88c236cfb34d701b2e12b2c57e9c19324d277712da779"), looks := true }, kinds := [], alts := [], laidByText := true, laidKinds := [.data, .data, .data, .data, .data, .sentinel, .sentinel, .pinned], laidTests := true, laidLooks := .later }
def BinaryBackUptoCardSaid : Prop := Claim7.holds Tryz.pinned (.plain (OpenSpec.upto binaryBackSpec)) binaryBackUptoCard

/-- THE SECOND FORM's CARD OF 'letterboxlaw17.BinaryWhole'. -/
def binaryWholeUptoCard : Claim7 := { stood := { row := binaryWholeUptoRow, standIns := [], harness := (true, "5238280fadd73aa1b6d88c236cfb34d701b2e12b2c57e9c19324d277712da779"), looks := true }, kinds := [], alts := [], laidByText := true, laidKinds := [.data, .data, .data, .data, .data, .sentinel, .sentinel, .pinned], laidTests := true, laidLooks := .later }
def BinaryWholeUptoCardSaid : Prop := Claim7.holds Tryz.pinned (.plain (OpenSpec.upto binaryWholeSpec)) binaryWholeUptoCard
end Rows
end Go.Proofs.YteallnjbpikhhaaGreatDoor
