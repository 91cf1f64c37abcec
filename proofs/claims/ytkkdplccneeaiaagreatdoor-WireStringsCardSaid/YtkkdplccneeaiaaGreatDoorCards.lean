/-
  DERIVED. GIVEN WITH THE SEED: THE CARDS: each row of YtkkdplccneeaiaaGreatDoorRows.lean that lists a variable, with what it lists TIED to the program's text (the seventh form; the later family's looks); each row that meets fmt, with fmt's text TOLD by the authors' own Lean function (tested against real Go, not proved from fmt's source: count such statements apart). THE CARD IS WHAT COUNTS. Prove the row's statement (the work); the ties are given (YtkkdplccneeaiaaGreatDoorTie.lean); close each card by the builder's one call (the guide's Derived/Test/ToyasCard.lean, 'card_holds'). Laid BY PROGRAM, IN A SANDBOX (cutbox-door.mjs). By AI agents, Wed Nov 11 2026. No macro, syntax, notation, axiom, sorry.
-/
import Derived.Test.YtkkdplccneeaiaaGreatDoorRows
import GoSem.ClaimSeven
namespace Go.Proofs.YtkkdplccneeaiaaGreatDoor
namespace Rows

/-- THE TIED CARD OF 'letterboxlaw18.WireStrings'. -/
def wireStringsCard : Claim7 := { stood := { row := wireStringsRow, standIns := [], harness := (true, "2262a394af113c60b2b6c993d6e3b38d7bf7e4c505f5d60bbcc8ec2631f96a07"), looks := true }, kinds := [], alts := [], laidByText := true, laidKinds := [.data, .data, .data], laidTests := true, laidLooks := .later }
def WireStringsCardSaid : Prop := Claim7.holds Tryz.pinned (.plain (OpenSpec.ofChange wireStringsSpec)) wireStringsCard

/-- THE TIED CARD OF 'letterboxlaw18.WireCuts'. -/
def wireCutsCard : Claim7 := { stood := { row := wireCutsRow, standIns := [], harness := (true, "2262a394af113c60b2b6c993d6e3b38d7bf7e4c505f5d60bbcc8ec2631f96a07"), looks := true }, kinds := [], alts := [], laidByText := true, laidKinds := [.data, .data, .data], laidTests := true, laidLooks := .later }
def WireCutsCardSaid : Prop := Claim7.holds Tryz.pinned (.plain (OpenSpec.ofChange wireCutsSpec)) wireCutsCard

/-- THE TIED CARD OF 'letterboxlaw18.WireWords'. -/
def wireWordsCard : Claim7 := { stood := { row := wireWordsRow, standIns := [], harness := (true, "2262a394af113c60b2b6c993d6e3b38d7bf7e4c505f5d60bbcc8ec2631f96a07"), looks := true }, kinds := [], alts := [], laidByText := true, laidKinds := [.data, .data, .data], laidTests := true, laidLooks := .later }
def WireWordsCardSaid : Prop := Claim7.holds Tryz.pinned (.plain (OpenSpec.ofChange wireWordsSpec)) wireWordsCard

/-- THE TIED CARD OF 'letterboxlaw18.WireLeft'. -/
def wireLeftCard : Claim7 := { stood := { row := wireLeftRow, standIns := [], harness := (true, "2262a394af113c60b2b6c993d6e3b38d7bf7e4c505f5d60bbcc8ec2631f96a07"), looks := true }, kinds := [], alts := [], laidByText := true, laidKinds := [.data, .data, .data], laidTests := true, laidLooks := .later }
def WireLeftCardSaid : Prop := Claim7.holds Tryz.pinned (.plain (OpenSpec.ofChange wireLeftSpec)) wireLeftCard

/-- THE SECOND FORM's CARD OF 'letterboxlaw18.WireStrings'. -/
def wireStringsUptoCard : Claim7 := { stood := { row := wireStringsUptoRow, standIns := [], harness := (true, "2262a394af113c60b2b6c993d6e3b38d7bf7e4c505f5d60bbcc8ec2631f96a07"), looks := true }, kinds := [], alts := [], laidByText := true, laidKinds := [.data, .data, .data], laidTests := true, laidLooks := .later }
def WireStringsUptoCardSaid : Prop := Claim7.holds Tryz.pinned (.plain (OpenSpec.upto wireStringsSpec)) wireStringsUptoCard

/-- THE SECOND FORM's CARD OF 'letterboxlaw18.WireCuts'. -/
def wireCutsUptoCard : Claim7 := { stood := { row := wireCutsUptoRow, standIns := [], harness := (true, "2262a394af113c60b2b6c993d6e3b38d7bf7e4c505f5d60bbcc8ec2631f96a07"), looks := true }, kinds := [], alts := [], laidByText := true, laidKinds := [.data, .data, .data], laidTests := true, laidLooks := .later }
def WireCutsUptoCardSaid : Prop := Claim7.holds Tryz.pinned (.plain (OpenSpec.upto wireCutsSpec)) wireCutsUptoCard

/-- THE SECOND FORM's CARD OF 'letterboxlaw18.WireWords'. -/
def wireWordsUptoCard : Claim7 := { stood := { row := wireWordsUptoRow, standIns := [], harness := (true, "2262a394af113c60b2b6c993d6e3b38d7bf7e4c505f5d60bbcc8ec2631f96a07"), looks := true }, kinds := [], alts := [], laidByText := true, laidKinds := [.data, .data, .data], laidTests := true, laidLooks := .later }
def WireWordsUptoCardSaid : Prop := Claim7.holds Tryz.pinned (.plain (OpenSpec.upto wireWordsSpec)) wireWordsUptoCard

/-- THE SECOND FORM's CARD OF 'letterboxlaw18.WireLeft'. -/
def wireLeftUptoCard : Claim7 := { stood := { row := wireLeftUptoRow, standIns := [], harness := (true, "2262a394af113c60b2b6c993d6e3b38d7bf7e4c505f5d60bbcc8ec2631f96a07"), looks := true }, kinds := [], alts := [], laidByText := true, laidKinds := [.data, .data, .data], laidTests := true, laidLooks := .later }
def WireLeftUptoCardSaid : Prop := Claim7.holds Tryz.pinned (.plain (OpenSpec.upto wireLeftSpec)) wireLeftUptoCard
end Rows
end Go.Proofs.YtkkdplccneeaiaaGreatDoor
