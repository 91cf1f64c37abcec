/-
  DERIVED. GIVEN WITH THE SEED: THE CARDS: each row of YtdofnejgfcnnoaaDoorRows.lean that lists a variable, with what it lists TIED to the program's text (the seventh form; the later family's looks); each row that meets fmt, with fmt's text TOLD by the authors' own Lean function (tested against real Go, not proved from fmt's source: count such statements apart). THE CARD IS WHAT COUNTS. Prove the row's statement (the work); the ties are given (YtdofnejgfcnnoaaDoorTie.lean); close each card by the builder's one call (the guide's Derived/Test/ToyasCard.lean, 'card_holds'). Laid BY PROGRAM, IN A SANDBOX (cutbox-door.mjs). By AI agents, Wed Nov 11 2026. No macro, syntax, notation, axiom, sorry.
-/
import Derived.Test.YtdofnejgfcnnoaaDoorRows
import GoSem.ClaimSeven
namespace Go.Proofs.YtdofnejgfcnnoaaDoor
namespace Rows

/-- THE TIED CARD OF 'letterboxlaw03.QpDecodes'. -/
def qpDecodesCard : Claim7 := { stood := { row := qpDecodesRow, standIns := [], harness := (true, "3aa0897f4093f96d0bb08ebe0bc66b4da8a29ed6031ba31d8c22ada12a79a9fc"), looks := false }, kinds := [], alts := [], laidByText := true, laidKinds := [.data, .pinned], laidTests := true, laidLooks := .later }
def QpDecodesCardSaid : Prop := Claim7.holds Tryd.pinned (.plain (OpenSpec.ofChange qpDecodesSpec)) qpDecodesCard

/-- THE TIED CARD OF 'letterboxlaw03.QpBack'. -/
def qpBackCard : Claim7 := { stood := { row := qpBackRow, standIns := [], harness := (true, "3aa0897f4093f96d0bb08ebe0bc66b4da8a29ed6031ba31d8c22ada12a79a9fc"), looks := false }, kinds := [], alts := [], laidByText := true, laidKinds := [.data, .pinned], laidTests := true, laidLooks := .later }
def QpBackCardSaid : Prop := Claim7.holds Tryd.pinned (.plain (OpenSpec.ofChange qpBackSpec)) qpBackCard

/-- THE TIED CARD OF 'letterboxlaw03.QpLines'. -/
def qpLinesCard : Claim7 := { stood := { row := qpLinesRow, standIns := [], harness := (true, "3aa0897f4093f96d0bb08ebe0bc66b4da8a29ed6031ba31d8c22ada12a79a9fc"), looks := false }, kinds := [], alts := [], laidByText := true, laidKinds := [.data, .pinned], laidTests := true, laidLooks := .later }
def QpLinesCardSaid : Prop := Claim7.holds Tryd.pinned (.plain (OpenSpec.ofChange qpLinesSpec)) qpLinesCard

/-- THE TIED CARD OF 'letterboxlaw03.QpBroken'. -/
def qpBrokenCard : Claim7 := { stood := { row := qpBrokenRow, standIns := [], harness := (true, "3aa0897f4093f96d0bb08ebe0bc66b4da8a29ed6031ba31d8c22ada12a79a9fc"), looks := false }, kinds := [], alts := [], laidByText := true, laidKinds := [.data, .pinned], laidTests := true, laidLooks := .later }
def QpBrokenCardSaid : Prop := Claim7.holds Tryd.pinned (.plain (OpenSpec.ofChange qpBrokenSpec)) qpBrokenCard

/-- THE SECOND FORM's CARD OF 'letterboxlaw03.QpDecodes'. -/
def qpDecodesUptoCard : Claim7 := { stood := { row := qpDecodesUptoRow, standIns := [], harness := (true, "3aa0897f4093f96d0bb08ebe0bc66b4da8a29ed6031ba31d8c22ada12a79a9fc"), looks := false }, kinds := [], alts := [], laidByText := true, laidKinds := [.data, .pinned], laidTests := true, laidLooks := .later }
def QpDecodesUptoCardSaid : Prop := Claim7.holds Tryd.pinned (.plain (OpenSpec.upto qpDecodesSpec)) qpDecodesUptoCard

/-- THE SECOND FORM's CARD OF 'letterboxlaw03.QpBack'. -/
def qpBackUptoCard : Claim7 := { stood := { row := qpBackUptoRow, standIns := [], harness := (true, "3aa0897f4093f96d0bb08ebe0bc66b4da8a29ed6031ba31d8c22ada12a79a9fc"), looks := false }, kinds := [], alts := [], laidByText := true, laidKinds := [.data, .pinned], laidTests := true, laidLooks := .later }
def QpBackUptoCardSaid : Prop := Claim7.holds Tryd.pinned (.plain (OpenSpec.upto qpBackSpec)) qpBackUptoCard

/-- THE SECOND FORM's CARD OF 'letterboxlaw03.QpLines'. -/
def qpLinesUptoCard : Claim7 := { stood := { row := qpLinesUptoRow, standIns := [], harness := (true, "3aa0897f4093f96d0bb08ebe0bc66b4da8a29ed6031ba31d8c22ada12a79a9fc"), looks := false }, kinds := [], alts := [], laidByText := true, laidKinds := [.data, .pinned], laidTests := true, laidLooks := .later }
def QpLinesUptoCardSaid : Prop := Claim7.holds Tryd.pinned (.plain (OpenSpec.upto qpLinesSpec)) qpLinesUptoCard

/-- THE SECOND FORM's CARD OF 'letterboxlaw03.QpBroken'. -/
def qpBrokenUptoCard : Claim7 := { stood := { row := qpBrokenUptoRow, standIns := [], harness := (true, "3aa0897f4093f96d0bb08ebe0bc66b4da8a29ed6031ba31d8c22ada12a79a9fc"), looks := false }, kinds := [], alts := [], laidByText := true, laidKinds := [.data, .pinned], laidTests := true, laidLooks := .later }
def QpBrokenUptoCardSaid : Prop := Claim7.holds Tryd.pinned (.plain (OpenSpec.upto qpBrokenSpec)) qpBrokenUptoCard
end Rows
end Go.Proofs.YtdofnejgfcnnoaaDoor
