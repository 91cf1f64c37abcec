/-
  DERIVED. GIVEN WITH THE SEED: THE CARDS: each row of YtahmhakdpmcdoaaGreatDoorRows.lean that lists a variable, with what it lists TIED to the program's text (the seventh form; the later family's looks); each row that meets fmt, with fmt's text TOLD by the authors' own Lean function (tested against real Go, not proved from fmt's source: count such statements apart). THE CARD IS WHAT COUNTS. Prove the row's statement (the work); the ties are given (YtahmhakdpmcdoaaGreatDoorTie.lean); close each card by the builder's one call (the guide's Derived/Test/ToyasCard.lean, 'card_holds'). Laid BY PROGRAM, IN A SANDBOX (cutbox-door.mjs). By AI agents, Wed Nov 11 2026. No macro, syntax, notation, axiom, sorry.
-/
import Derived.Test.YtahmhakdpmcdoaaGreatDoorRows
import GoSem.ClaimSeven
namespace Go.Proofs.YtahmhakdpmcdoaaGreatDoor
namespace Rows

/-- THE TIED CARD OF 'letterboxlaw16.FetchPieces'. -/
def fetchPiecesCard : Claim7 := { stood := { row := fetchPiecesRow, standIns := [], harness := (true, "f995b15f12faa23d6ab30d901e51ca0ed8a21d4633eed420d1300e4b18d14c6c"), looks := true }, kinds := [], alts := [], laidByText := true, laidKinds := [.data, .data, .data, .data, .sentinel, .sentinel, .pinned], laidTests := true, laidLooks := .later }
def FetchPiecesCardSaid : Prop := Claim7.holds Tryz.pinned (.plain (OpenSpec.ofChange fetchPiecesSpec)) fetchPiecesCard

/-- THE TIED CARD OF 'letterboxlaw16.FetchWhole'. -/
def fetchWholeCard : Claim7 := { stood := { row := fetchWholeRow, standIns := [], harness := (true, "f995b15f12faa23d6ab30d901e51ca0ed8a21d4633eed420d1300e4b18d14c6c"), looks := true }, kinds := [], alts := [], laidByText := true, laidKinds := [.data, .data, .data, .data, .sentinel, .sentinel, .pinned], laidTests := true, laidLooks := .later }
def FetchWholeCardSaid : Prop := Claim7.holds Tryz.pinned (.plain (OpenSpec.ofChange fetchWholeSpec)) fetchWholeCard

/-- THE TIED CARD OF 'letterboxlaw16.FetchFields'. -/
def fetchFieldsCard : Claim7 := { stood := { row := fetchFieldsRow, standIns := [], harness := (true, "f995b15f12faa23d6ab30d901e51ca0ed8a21d4633eed420d1300e4b18d14c6c"), looks := true }, kinds := [], alts := [], laidByText := true, laidKinds := [.data, .data, .data, .data, .sentinel, .sentinel, .pinned], laidTests := true, laidLooks := .later }
def FetchFieldsCardSaid : Prop := Claim7.holds Tryz.pinned (.plain (OpenSpec.ofChange fetchFieldsSpec)) fetchFieldsCard

/-- THE TIED CARD OF 'letterboxlaw16.FetchInner'. -/
def fetchInnerCard : Claim7 := { stood := { row := fetchInnerRow, standIns := [], harness := (true, "f995b15f12faa23d6ab30d901e51ca0ed8a21d4633eed420d1300e4b18d14c6c"), looks := true }, kinds := [], alts := [], laidByText := true, laidKinds := [.data, .data, .data, .data, .sentinel, .sentinel, .pinned], laidTests := true, laidLooks := .later }
def FetchInnerCardSaid : Prop := Claim7.holds Tryz.pinned (.plain (OpenSpec.ofChange fetchInnerSpec)) fetchInnerCard

/-- THE SECOND FORM's CARD OF 'letterboxlaw16.FetchPieces'. -/
def fetchPiecesUptoCard : Claim7 := { stood := { row := fetchPiecesUptoRow, standIns := [], harness := (true, "f995b15f12faa23d6ab30d901e51ca0ed8a21d4633eed420d1300e4b18d14c6c"), looks := true }, kinds := [], alts := [], laidByText := true, laidKinds := [.data, .data, .data, .data, .sentinel, .sentinel, .pinned], laidTests := true, laidLooks := .later }
def FetchPiecesUptoCardSaid : Prop := Claim7.holds Tryz.pinned (.plain (OpenSpec.upto fetchPiecesSpec)) fetchPiecesUptoCard

/-- THE SECOND FORM's CARD OF 'letterboxlaw16.FetchWhole'. -/
def fetchWholeUptoCard : Claim7 := { stood := { row := fetchWholeUptoRow, standIns := [], harness := (true, "f995b15f12faa23d6ab30d901e51ca0ed8a21d4633eed420d1300e4b18d14c6c"), looks := true }, kinds := [], alts := [], laidByText := true, laidKinds := [.data, .data, .data, .data, .sentinel, .sentinel, .pinned], laidTests := true, laidLooks := .later }
def FetchWholeUptoCardSaid : Prop := Claim7.holds Tryz.pinned (.plain (OpenSpec.upto fetchWholeSpec)) fetchWholeUptoCard

/-- THE SECOND FORM's CARD OF 'letterboxlaw16.FetchFields'. -/
def fetchFieldsUptoCard : Claim7 := { stood := { row := fetchFieldsUptoRow, standIns := [], harness := (true, "f995b15f12faa23d6ab30d901e51ca0ed8a21d4633eed420d1300e4b18d14c6c"), looks := true }, kinds := [], alts := [], laidByText := true, laidKinds := [.data, .data, .data, .data, .sentinel, .sentinel, .pinned], laidTests := true, laidLooks := .later }
def FetchFieldsUptoCardSaid : Prop := Claim7.holds Tryz.pinned (.plain (OpenSpec.upto fetchFieldsSpec)) fetchFieldsUptoCard

/-- THE SECOND FORM's CARD OF 'letterboxlaw16.FetchInner'. -/
def fetchInnerUptoCard : Claim7 := { stood := { row := fetchInnerUptoRow, standIns := [], harness := (true, "f995b15f12faa23d6ab30d901e51ca0ed8a21d4633eed420d1300e4b18d14c6c"), looks := true }, kinds := [], alts := [], laidByText := true, laidKinds := [.data, .data, .data, .data, .sentinel, .sentinel, .pinned], laidTests := true, laidLooks := .later }
def FetchInnerUptoCardSaid : Prop := Claim7.holds Tryz.pinned (.plain (OpenSpec.upto fetchInnerSpec)) fetchInnerUptoCard
end Rows
end Go.Proofs.YtahmhakdpmcdoaaGreatDoor
