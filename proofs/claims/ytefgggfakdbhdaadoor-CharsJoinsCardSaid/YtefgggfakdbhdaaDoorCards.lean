/-
  DERIVED. GIVEN WITH THE SEED: THE CARDS: each row of YtefgggfakdbhdaaDoorRows.lean that lists a variable, with what it lists TIED to the program's text (the seventh form; the later family's looks); each row that meets fmt, with fmt's text TOLD by the authors' own Lean function (tested against real Go, not proved from fmt's source: count such statements apart). THE CARD IS WHAT COUNTS. Prove the row's statement (the work); the ties are given (YtefgggfakdbhdaaDoorTie.lean); close each card by the builder's one call (the guide's Derived/Test/ToyasCard.lean, 'card_holds'). Laid BY PROGRAM, IN A SANDBOX (cutbox-door.mjs). By AI agents, Wed Nov 11 2026. No macro, syntax, notation, axiom, sorry.
-/
import Derived.Test.YtefgggfakdbhdaaDoorRows
import GoSem.ClaimSeven
namespace Go.Proofs.YtefgggfakdbhdaaDoor
namespace Rows

/-- THE TIED CARD OF 'letterboxlaw01.CharsBytes'. -/
def charsBytesCard : Claim7 := { stood := { row := charsBytesRow, standIns := [], harness := (true, "f0ba71e962bf9c3523bfd1e60c63f6e3d88ef3ecfa4a0b348fc93a26bb476ded"), looks := false }, kinds := [], alts := [], laidByText := true, laidKinds := [.data, .data, .data], laidTests := true, laidLooks := .later }
def CharsBytesCardSaid : Prop := Claim7.holds Tryd.pinned (.plain (OpenSpec.ofChange charsBytesSpec)) charsBytesCard

/-- THE TIED CARD OF 'letterboxlaw01.CharsTexts'. -/
def charsTextsCard : Claim7 := { stood := { row := charsTextsRow, standIns := [], harness := (true, "f0ba71e962bf9c3523bfd1e60c63f6e3d88ef3ecfa4a0b348fc93a26bb476ded"), looks := false }, kinds := [], alts := [], laidByText := true, laidKinds := [.data, .data, .data], laidTests := true, laidLooks := .later }
def CharsTextsCardSaid : Prop := Claim7.holds Tryd.pinned (.plain (OpenSpec.ofChange charsTextsSpec)) charsTextsCard

/-- THE TIED CARD OF 'letterboxlaw01.CharsDigits'. -/
def charsDigitsCard : Claim7 := { stood := { row := charsDigitsRow, standIns := [], harness := (true, "f0ba71e962bf9c3523bfd1e60c63f6e3d88ef3ecfa4a0b348fc93a26bb476ded"), looks := false }, kinds := [], alts := [], laidByText := true, laidKinds := [.data, .data, .data], laidTests := true, laidLooks := .later }
def CharsDigitsCardSaid : Prop := Claim7.holds Tryd.pinned (.plain (OpenSpec.ofChange charsDigitsSpec)) charsDigitsCard

/-- THE TIED CARD OF 'letterboxlaw01.CharsJoins'. -/
def charsJoinsCard : Claim7 := { stood := { row := charsJoinsRow, standIns := [], harness := (true, "f0ba71e962bf9c3523bfd1e60c63f6e3d88ef3ecfa4a0b348fc93a26bb476ded"), looks := false }, kinds := [], alts := [], laidByText := true, laidKinds := [.data, .data, .data], laidTests := true, laidLooks := .later }
def CharsJoinsCardSaid : Prop := Claim7.holds Tryd.pinned (.plain (OpenSpec.ofChange charsJoinsSpec)) charsJoinsCard

/-- THE TIED CARD OF 'letterboxlaw01.CharsFold'. -/
def charsFoldCard : Claim7 := { stood := { row := charsFoldRow, standIns := [], harness := (true, "f0ba71e962bf9c3523bfd1e60c63f6e3d88ef3ecfa4a0b348fc93a26bb476ded"), looks := false }, kinds := [], alts := [], laidByText := true, laidKinds := [.data, .data, .data], laidTests := true, laidLooks := .later }
def CharsFoldCardSaid : Prop := Claim7.holds Tryd.pinned (.plain (OpenSpec.ofChange charsFoldSpec)) charsFoldCard

/-- THE TIED CARD OF 'letterboxlaw01.CharsTrims'. -/
def charsTrimsCard : Claim7 := { stood := { row := charsTrimsRow, standIns := [], harness := (true, "f0ba71e962bf9c3523bfd1e60c63f6e3d88ef3ecfa4a0b348fc93a26bb476ded"), looks := false }, kinds := [], alts := [], laidByText := true, laidKinds := [.data, .data, .data], laidTests := true, laidLooks := .later }
def CharsTrimsCardSaid : Prop := Claim7.holds Tryd.pinned (.plain (OpenSpec.ofChange charsTrimsSpec)) charsTrimsCard

/-- THE SECOND FORM's CARD OF 'letterboxlaw01.CharsBytes'. -/
def charsBytesUptoCard : Claim7 := { stood := { row := charsBytesUptoRow, standIns := [], harness := (true, "f0ba71e962bf9c3523bfd1e60c63f6e3d88ef3ecfa4a0b348fc93a26bb476ded"), looks := false }, kinds := [], alts := [], laidByText := true, laidKinds := [.data, .data, .data], laidTests := true, laidLooks := .later }
def CharsBytesUptoCardSaid : Prop := Claim7.holds Tryd.pinned (.plain (OpenSpec.upto charsBytesSpec)) charsBytesUptoCard

/-- THE SECOND FORM's CARD OF 'letterboxlaw01.CharsTexts'. -/
def charsTextsUptoCard : Claim7 := { stood := { row := charsTextsUptoRow, standIns := [], harness := (true, "f0ba71e962bf9c3523bfd1e60c63f6e3d88ef3ecfa4a0b348fc93a26bb476ded"), looks := false }, kinds := [], alts := [], laidByText := true, laidKinds := [.data, .data, .data], laidTests := true, laidLooks := .later }
def CharsTextsUptoCardSaid : Prop := Claim7.holds Tryd.pinned (.plain (OpenSpec.upto charsTextsSpec)) charsTextsUptoCard

/-- THE SECOND FORM's CARD OF 'letterboxlaw01.CharsDigits'. -/
def charsDigitsUptoCard : Claim7 := { stood := { row := charsDigitsUptoRow, standIns := [], harness := (true, "f0ba71e962bf9c3523bfd1e60c63f6e3d88ef3ecfa4a0b348fc93a26bb476ded"), looks := false }, kinds := [], alts := [], laidByText := true, laidKinds := [.data, .data, .data], laidTests := true, laidLooks := .later }
def CharsDigitsUptoCardSaid : Prop := Claim7.holds Tryd.pinned (.plain (OpenSpec.upto charsDigitsSpec)) charsDigitsUptoCard

/-- THE SECOND FORM's CARD OF 'letterboxlaw01.CharsJoins'. -/
def charsJoinsUptoCard : Claim7 := { stood := { row := charsJoinsUptoRow, standIns := [], harness := (true, "f0ba71e962bf9c3523bfd1e60c63f6e3d88ef3ecfa4a0b348fc93a26bb476ded"), looks := false }, kinds := [], alts := [], laidByText := true, laidKinds := [.data, .data, .data], laidTests := true, laidLooks := .later }
def CharsJoinsUptoCardSaid : Prop := Claim7.holds Tryd.pinned (.plain (OpenSpec.upto charsJoinsSpec)) charsJoinsUptoCard

/-- THE SECOND FORM's CARD OF 'letterboxlaw01.CharsFold'. -/
def charsFoldUptoCard : Claim7 := { stood := { row := charsFoldUptoRow, standIns := [], harness := (true, "f0ba71e962bf9c3523bfd1e60c63f6e3d88ef3ecfa4a0b348fc93a26bb476ded"), looks := false }, kinds := [], alts := [], laidByText := true, laidKinds := [.data, .data, .data], laidTests := true, laidLooks := .later }
def CharsFoldUptoCardSaid : Prop := Claim7.holds Tryd.pinned (.plain (OpenSpec.upto charsFoldSpec)) charsFoldUptoCard

/-- THE SECOND FORM's CARD OF 'letterboxlaw01.CharsTrims'. -/
def charsTrimsUptoCard : Claim7 := { stood := { row := charsTrimsUptoRow, standIns := [], harness := (true, "f0ba71e962bf9c3523bfd1e60c63f6e3d88ef3ecfa4a0b348fc93a26bb476ded"), looks := false }, kinds := [], alts := [], laidByText := true, laidKinds := [.data, .data, .data], laidTests := true, laidLooks := .later }
def CharsTrimsUptoCardSaid : Prop := Claim7.holds Tryd.pinned (.plain (OpenSpec.upto charsTrimsSpec)) charsTrimsUptoCard
end Rows
end Go.Proofs.YtefgggfakdbhdaaDoor
