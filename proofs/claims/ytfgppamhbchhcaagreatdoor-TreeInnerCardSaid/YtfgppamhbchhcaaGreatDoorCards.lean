/-
  DERIVED. GIVEN WITH THE SEED: THE CARDS: each row of YtfgppamhbchhcaaGreatDoorRows.lean that lists a variable, with what it lists TIED to the program's text (the seventh form; the later family's looks); each row that meets fmt, with fmt's text TOLD by the authors' own Lean function (tested against real Go, not proved from fmt's source: count such statements apart). THE CARD IS WHAT COUNTS. Prove the row's statement (the work); the ties are given (YtfgppamhbchhcaaGreatDoorTie.lean); close each card by the builder's one call (the guide's Derived/Test/ToyasCard.lean, 'card_holds'). Laid BY PROGRAM, IN A SANDBOX (cutbox-door.mjs). By AI agents, Wed Nov 11 2026. No macro, syntax, notation, axiom, sorry.
-/
import Derived.Test.YtfgppamhbchhcaaGreatDoorRows
import GoSem.ClaimSeven
namespace Go.Proofs.YtfgppamhbchhcaaGreatDoor
namespace Rows

/-- THE TIED CARD OF 'letterboxlaw12.TreeMany'. -/
def treeManyCard : Claim7 := { stood := { row := treeManyRow, standIns := [], harness := (true, "8595fd5f89b8fce0d8e428bb60174799ab2529e76a66c79bfdde51e4b41ac76a"), looks := true }, kinds := [], alts := [], laidByText := true, laidKinds := [.data, .data, .data, .data, .sentinel, .sentinel, .pinned], laidTests := true, laidLooks := .later }
def TreeManyCardSaid : Prop := Claim7.holds Tryz.pinned (.plain (OpenSpec.ofChange treeManySpec)) treeManyCard

/-- THE TIED CARD OF 'letterboxlaw12.TreeInner'. -/
def treeInnerCard : Claim7 := { stood := { row := treeInnerRow, standIns := [], harness := (true, "8595fd5f89b8fce0d8e428bb60174799ab2529e76a66c79bfdde51e4b41ac76a"), looks := true }, kinds := [], alts := [], laidByText := true, laidKinds := [.data, .data, .data, .data, .sentinel, .sentinel, .pinned], laidTests := true, laidLooks := .later }
def TreeInnerCardSaid : Prop := Claim7.holds Tryz.pinned (.plain (OpenSpec.ofChange treeInnerSpec)) treeInnerCard

/-- THE TIED CARD OF 'letterboxlaw13.TilesAll'. -/
def tilesAllCard : Claim7 := { stood := { row := tilesAllRow, standIns := [], harness := (true, "8595fd5f89b8fce0d8e428bb60174799ab2529e76a66c79bfdde51e4b41ac76a"), looks := true }, kinds := [], alts := [], laidByText := true, laidKinds := [.data, .data, .data, .data, .sentinel, .sentinel, .pinned], laidTests := true, laidLooks := .later }
def TilesAllCardSaid : Prop := Claim7.holds Tryz.pinned (.plain (OpenSpec.ofChange tilesAllSpec)) tilesAllCard

/-- THE TIED CARD OF 'letterboxlaw13.TilesKinds'. -/
def tilesKindsCard : Claim7 := { stood := { row := tilesKindsRow, standIns := [], harness := (true, "8595fd5f89b8fce0d8e428bb60174799ab2529e76a66c79bfdde51e4b41ac76a"), looks := true }, kinds := [], alts := [], laidByText := true, laidKinds := [.data, .data, .data, .data, .sentinel, .sentinel, .pinned], laidTests := true, laidLooks := .later }
def TilesKindsCardSaid : Prop := Claim7.holds Tryz.pinned (.plain (OpenSpec.ofChange tilesKindsSpec)) tilesKindsCard

/-- THE TIED CARD OF 'letterboxlaw13.TilesRaw'. -/
def tilesRawCard : Claim7 := { stood := { row := tilesRawRow, standIns := [], harness := (true, "8595fd5f89b8fce0d8e428bb60174799ab2529e76a66c79bfdde51e4b41ac76a"), looks := true }, kinds := [], alts := [], laidByText := true, laidKinds := [.data, .data, .data, .data, .sentinel, .sentinel, .pinned], laidTests := true, laidLooks := .later }
def TilesRawCardSaid : Prop := Claim7.holds Tryz.pinned (.plain (OpenSpec.ofChange tilesRawSpec)) tilesRawCard

/-- THE SECOND FORM's CARD OF 'letterboxlaw12.TreeMany'. -/
def treeManyUptoCard : Claim7 := { stood := { row := treeManyUptoRow, standIns := [], harness := (true, "8595fd5f89b8fce0d8e428bb60174799ab2529e76a66c79bfdde51e4b41ac76a"), looks := true }, kinds := [], alts := [], laidByText := true, laidKinds := [.data, .data, .data, .data, .sentinel, .sentinel, .pinned], laidTests := true, laidLooks := .later }
def TreeManyUptoCardSaid : Prop := Claim7.holds Tryz.pinned (.plain (OpenSpec.upto treeManySpec)) treeManyUptoCard

/-- THE SECOND FORM's CARD OF 'letterboxlaw12.TreeInner'. -/
def treeInnerUptoCard : Claim7 := { stood := { row := treeInnerUptoRow, standIns := [], harness := (true, "8595fd5f89b8fce0d8e428bb60174799ab2529e76a66c79bfdde51e4b41ac76a"), looks := true }, kinds := [], alts := [], laidByText := true, laidKinds := [.data, .data, .data, .data, .sentinel, .sentinel, .pinned], laidTests := true, laidLooks := .later }
def TreeInnerUptoCardSaid : Prop := Claim7.holds Tryz.pinned (.plain (OpenSpec.upto treeInnerSpec)) treeInnerUptoCard

/-- THE SECOND FORM's CARD OF 'letterboxlaw13.TilesAll'. -/
def tilesAllUptoCard : Claim7 := { stood := { row := tilesAllUptoRow, standIns := [], harness := (true, "8595fd5f89b8fce0d8e428bb60174799ab2529e76a66c79bfdde51e4b41ac76a"), looks := true }, kinds := [], alts := [], laidByText := true, laidKinds := [.data, .data, .data, .data, .sentinel, .sentinel, .pinned], laidTests := true, laidLooks := .later }
def TilesAllUptoCardSaid : Prop := Claim7.holds Tryz.pinned (.plain (OpenSpec.upto tilesAllSpec)) tilesAllUptoCard

/-- THE SECOND FORM's CARD OF 'letterboxlaw13.TilesKinds'. -/
def tilesKindsUptoCard : Claim7 := { stood := { row := tilesKindsUptoRow, standIns := [], harness := (true, "8595fd5f89b8fce0d8e428bb60174799ab2529e76a66c79bfdde51e4b41ac76a"), looks := true }, kinds := [], alts := [], laidByText := true, laidKinds := [.data, .data, .data, .data, .sentinel, .sentinel, .pinned], laidTests := true, laidLooks := .later }
def TilesKindsUptoCardSaid : Prop := Claim7.holds Tryz.pinned (.plain (OpenSpec.upto tilesKindsSpec)) tilesKindsUptoCard

/-- THE SECOND FORM's CARD OF 'letterboxlaw13.TilesRaw'. -/
def tilesRawUptoCard : Claim7 := { stood := { row := tilesRawUptoRow, standIns := [], harness := (true, "8595fd5f89b8fce0d8e428bb60174799ab2529e76a66c79bfdde51e4b41ac76a"), looks := true }, kinds := [], alts := [], laidByText := true, laidKinds := [.data, .data, .data, .data, .sentinel, .sentinel, .pinned], laidTests := true, laidLooks := .later }
def TilesRawUptoCardSaid : Prop := Claim7.holds Tryz.pinned (.plain (OpenSpec.upto tilesRawSpec)) tilesRawUptoCard
end Rows
end Go.Proofs.YtfgppamhbchhcaaGreatDoor
