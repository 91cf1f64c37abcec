/-
  DERIVED. GIVEN WITH THE SEED: THE CARDS: each row of YtjgbcfecgbkefaaDoorRows.lean that lists a variable, with what it lists TIED to the program's text (the seventh form; the later family's looks); each row that meets fmt, with fmt's text TOLD by the authors' own Lean function (tested against real Go, not proved from fmt's source: count such statements apart). THE CARD IS WHAT COUNTS. Prove the row's statement (the work); the ties are given (YtjgbcfecgbkefaaDoorTie.lean); close each card by the builder's one call (the guide's Derived/Test/ToyasCard.lean, 'card_holds'). Laid BY PROGRAM, IN A SANDBOX (cutbox-door.mjs). By AI agents, Wed Nov 11 2026. No macro, syntax, notation, axiom, sorry.
-/
import Derived.Test.YtjgbcfecgbkefaaDoorRows
import GoSem.ClaimSeven
namespace Go.Proofs.YtjgbcfecgbkefaaDoor
namespace Rows

/-- THE TIED CARD OF 'letterboxlaw06.HeaderOrder'. -/
def headerOrderCard : Claim7 := { stood := { row := headerOrderRow, standIns := [], harness := (true, "bc097e80849c5313c43e80259056bd8a4700ba2604c0c46b63e5eadc1d5cdebc"), looks := false }, kinds := [], alts := [], laidByText := true, laidKinds := [.data, .pinned], laidTests := true, laidLooks := .later }
def HeaderOrderCardSaid : Prop := Claim7.holds Tryd.pinned (.plain (OpenSpec.ofChange headerOrderSpec)) headerOrderCard

/-- THE TIED CARD OF 'letterboxlaw06.HeaderFolds'. -/
def headerFoldsCard : Claim7 := { stood := { row := headerFoldsRow, standIns := [], harness := (true, "bc097e80849c5313c43e80259056bd8a4700ba2604c0c46b63e5eadc1d5cdebc"), looks := false }, kinds := [], alts := [], laidByText := true, laidKinds := [.data, .pinned], laidTests := true, laidLooks := .later }
def HeaderFoldsCardSaid : Prop := Claim7.holds Tryd.pinned (.plain (OpenSpec.ofChange headerFoldsSpec)) headerFoldsCard

/-- THE SECOND FORM's CARD OF 'letterboxlaw06.HeaderOrder'. -/
def headerOrderUptoCard : Claim7 := { stood := { row := headerOrderUptoRow, standIns := [], harness := (true, "bc097e80849c5313c43e80259056bd8a4700ba2604c0c46b63e5eadc1d5cdebc"), looks := false }, kinds := [], alts := [], laidByText := true, laidKinds := [.data, .pinned], laidTests := true, laidLooks := .later }
def HeaderOrderUptoCardSaid : Prop := Claim7.holds Tryd.pinned (.plain (OpenSpec.upto headerOrderSpec)) headerOrderUptoCard

/-- THE SECOND FORM's CARD OF 'letterboxlaw06.HeaderFolds'. -/
def headerFoldsUptoCard : Claim7 := { stood := { row := headerFoldsUptoRow, standIns := [], harness := (true, "bc097e80849c5313c43e80259056bd8a4700ba2604c0c46b63e5eadc1d5cdebc"), looks := false }, kinds := [], alts := [], laidByText := true, laidKinds := [.data, .pinned], laidTests := true, laidLooks := .later }
def HeaderFoldsUptoCardSaid : Prop := Claim7.holds Tryd.pinned (.plain (OpenSpec.upto headerFoldsSpec)) headerFoldsUptoCard
end Rows
end Go.Proofs.YtjgbcfecgbkefaaDoor
