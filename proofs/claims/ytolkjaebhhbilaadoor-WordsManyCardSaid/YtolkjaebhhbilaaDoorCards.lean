/-
  DERIVED. GIVEN WITH THE SEED: THE CARDS: each row of YtolkjaebhhbilaaDoorRows.lean that lists a variable, with what it lists TIED to the program's text (the seventh form; the later family's looks); each row that meets fmt, with fmt's text TOLD by the authors' own Lean function (tested against real Go, not proved from fmt's source: count such statements apart). THE CARD IS WHAT COUNTS. Prove the row's statement (the work); the ties are given (YtolkjaebhhbilaaDoorTie.lean); close each card by the builder's one call (the guide's Derived/Test/ToyasCard.lean, 'card_holds'). Laid BY PROGRAM, IN A SANDBOX (cutbox-door.mjs). By AI agents, Wed Nov 11 2026. No macro, syntax, notation, axiom, sorry.
-/
import Derived.Test.YtolkjaebhhbilaaDoorRows
import GoSem.ClaimSeven
namespace Go.Proofs.YtolkjaebhhbilaaDoor
namespace Rows

/-- THE TIED CARD OF 'letterboxlaw09.WordsEncodes'. -/
def wordsEncodesCard : Claim7 := { stood := { row := wordsEncodesRow, standIns := [], harness := (true, "301f663894a25a20488ecfcf96cb3df69beff7871ec120444f5e31f77f29c7f2"), looks := true }, kinds := [], alts := [], laidByText := true, laidKinds := [.data, .data, .data, .data, .data, .sentinel, .sentinel, .pinned], laidTests := true, laidLooks := .later }
def WordsEncodesCardSaid : Prop := Claim7.holds Tryd.pinned (.plain (OpenSpec.ofChange wordsEncodesSpec)) wordsEncodesCard

/-- THE TIED CARD OF 'letterboxlaw09.WordsPlain'. -/
def wordsPlainCard : Claim7 := { stood := { row := wordsPlainRow, standIns := [], harness := (true, "301f663894a25a20488ecfcf96cb3df69beff7871ec120444f5e31f77f29c7f2"), looks := true }, kinds := [], alts := [], laidByText := true, laidKinds := [.data, .data, .data, .data, .data, .sentinel, .sentinel, .pinned], laidTests := true, laidLooks := .later }
def WordsPlainCardSaid : Prop := Claim7.holds Tryd.pinned (.plain (OpenSpec.ofChange wordsPlainSpec)) wordsPlainCard

/-- THE TIED CARD OF 'letterboxlaw09.WordsMany'. -/
def wordsManyCard : Claim7 := { stood := { row := wordsManyRow, standIns := [], harness := (true, "301f663894a25a20488ecfcf96cb3df69beff7871ec120444f5e31f77f29c7f2"), looks := true }, kinds := [], alts := [], laidByText := true, laidKinds := [.data, .data, .data, .data, .data, .sentinel, .sentinel, .pinned], laidTests := true, laidLooks := .later }
def WordsManyCardSaid : Prop := Claim7.holds Tryd.pinned (.plain (OpenSpec.ofChange wordsManySpec)) wordsManyCard

/-- THE SECOND FORM's CARD OF 'letterboxlaw09.WordsEncodes'. -/
def wordsEncodesUptoCard : Claim7 := { stood := { row := wordsEncodesUptoRow, standIns := [], harness := (true, "301f663894a25a20488ecfcf96cb3df69beff7871ec120444f5e31f77f29c7f2"), looks := true }, kinds := [], alts := [], laidByText := true, laidKinds := [.data, .data, .data, .data, .data, .sentinel, .sentinel, .pinned], laidTests := true, laidLooks := .later }
def WordsEncodesUptoCardSaid : Prop := Claim7.holds Tryd.pinned (.plain (OpenSpec.upto wordsEncodesSpec)) wordsEncodesUptoCard

/-- THE SECOND FORM's CARD OF 'letterboxlaw09.WordsPlain'. -/
def wordsPlainUptoCard : Claim7 := { stood := { row := wordsPlainUptoRow, standIns := [], harness := (true, "301f663894a25a20488ecfcf96cb3df69beff7871ec120444f5e31f77f29c7f2"), looks := true }, kinds := [], alts := [], laidByText := true, laidKinds := [.data, .data, .data, .data, .data, .sentinel, .sentinel, .pinned], laidTests := true, laidLooks := .later }
def WordsPlainUptoCardSaid : Prop := Claim7.holds Tryd.pinned (.plain (OpenSpec.upto wordsPlainSpec)) wordsPlainUptoCard

/-- THE SECOND FORM's CARD OF 'letterboxlaw09.WordsMany'. -/
def wordsManyUptoCard : Claim7 := { stood := { row := wordsManyUptoRow, standIns := [], harness := (true, "301f663894a25a20488ecfcf96cb3df69beff7871ec120444f5e31f77f29c7f2"), looks := true }, kinds := [], alts := [], laidByText := true, laidKinds := [.data, .data, .data, .data, .data, .sentinel, .sentinel, .pinned], laidTests := true, laidLooks := .later }
def WordsManyUptoCardSaid : Prop := Claim7.holds Tryd.pinned (.plain (OpenSpec.upto wordsManySpec)) wordsManyUptoCard
end Rows
end Go.Proofs.YtolkjaebhhbilaaDoor
