/-
  DERIVED. GIVEN WITH THE SEED: THE CARDS: each row of YtkmgflnmffdhjaaGreatDoorRows.lean that lists a variable, with what it lists TIED to the program's text (the seventh form; the later family's looks); each row that meets fmt, with fmt's text TOLD by the authors' own Lean function (tested against real Go, not proved from fmt's source: count such statements apart). THE CARD IS WHAT COUNTS. Prove the row's statement (the work); the ties are given (YtkmgflnmffdhjaaGreatDoorTie.lean); close each card by the builder's one call (the guide's Derived/Test/ToyasCard.lean, 'card_holds'). Laid BY PROGRAM, IN A SANDBOX (cutbox-door.mjs). By AI agents, Wed Nov 11 2026. No macro, syntax, notation, axiom, sorry.
-/
import Derived.Test.YtkmgflnmffdhjaaGreatDoorRows
import GoSem.ClaimSeven
namespace Go.Proofs.YtkmgflnmffdhjaaGreatDoor
namespace Rows

/-- THE TIED CARD OF 'letterboxlaw20.StructureTokens'. -/
def structureTokensCard : Claim7 := { stood := { row := structureTokensRow, standIns := [], harness := (true, "6ba4f45a1dd07f212c75e55a7c27c79ed559e62d0a8c00d8342ef6a9577115ff"), looks := true }, kinds := [], alts := [], laidByText := true, laidKinds := [.data, .data, .data, .data, .sentinel, .sentinel, .pinned], laidTests := true, laidLooks := .later }
def StructureTokensCardSaid : Prop := Claim7.holds Tryz.pinned (.plain (OpenSpec.ofChange structureTokensSpec)) structureTokensCard

/-- THE TIED CARD OF 'letterboxlaw20.StructureNests'. -/
def structureNestsCard : Claim7 := { stood := { row := structureNestsRow, standIns := [], harness := (true, "6ba4f45a1dd07f212c75e55a7c27c79ed559e62d0a8c00d8342ef6a9577115ff"), looks := true }, kinds := [], alts := [], laidByText := true, laidKinds := [.data, .data, .data, .data, .sentinel, .sentinel, .pinned], laidTests := true, laidLooks := .later }
def StructureNestsCardSaid : Prop := Claim7.holds Tryz.pinned (.plain (OpenSpec.ofChange structureNestsSpec)) structureNestsCard

/-- THE TIED CARD OF 'letterboxlaw20.StructureKinds'. -/
def structureKindsCard : Claim7 := { stood := { row := structureKindsRow, standIns := [], harness := (true, "6ba4f45a1dd07f212c75e55a7c27c79ed559e62d0a8c00d8342ef6a9577115ff"), looks := true }, kinds := [], alts := [], laidByText := true, laidKinds := [.data, .data, .data, .data, .sentinel, .sentinel, .pinned], laidTests := true, laidLooks := .later }
def StructureKindsCardSaid : Prop := Claim7.holds Tryz.pinned (.plain (OpenSpec.ofChange structureKindsSpec)) structureKindsCard

/-- THE SECOND FORM's CARD OF 'letterboxlaw20.StructureTokens'. -/
def structureTokensUptoCard : Claim7 := { stood := { row := structureTokensUptoRow, standIns := [], harness := (true, "6ba4f45a1dd07f212c75e55a7c27c79ed559e62d0a8c00d8342ef6a9577115ff"), looks := true }, kinds := [], alts := [], laidByText := true, laidKinds := [.data, .data, .data, .data, .sentinel, .sentinel, .pinned], laidTests := true, laidLooks := .later }
def StructureTokensUptoCardSaid : Prop := Claim7.holds Tryz.pinned (.plain (OpenSpec.upto structureTokensSpec)) structureTokensUptoCard

/-- THE SECOND FORM's CARD OF 'letterboxlaw20.StructureNests'. -/
def structureNestsUptoCard : Claim7 := { stood := { row := structureNestsUptoRow, standIns := [], harness := (true, "6ba4f45a1dd07f212c75e55a7c27c79ed559e62d0a8c00d8342ef6a9577115ff"), looks := true }, kinds := [], alts := [], laidByText := true, laidKinds := [.data, .data, .data, .data, .sentinel, .sentinel, .pinned], laidTests := true, laidLooks := .later }
def StructureNestsUptoCardSaid : Prop := Claim7.holds Tryz.pinned (.plain (OpenSpec.upto structureNestsSpec)) structureNestsUptoCard

/-- THE SECOND FORM's CARD OF 'letterboxlaw20.StructureKinds'. -/
def structureKindsUptoCard : Claim7 := { stood := { row := structureKindsUptoRow, standIns := [], harness := (true, "6ba4f45a1dd07f212c75e55a7c27c79ed559e62d0a8c00d8342ef6a9577115ff"), looks := true }, kinds := [], alts := [], laidByText := true, laidKinds := [.data, .data, .data, .data, .sentinel, .sentinel, .pinned], laidTests := true, laidLooks := .later }
def StructureKindsUptoCardSaid : Prop := Claim7.holds Tryz.pinned (.plain (OpenSpec.upto structureKindsSpec)) structureKindsUptoCard
end Rows
end Go.Proofs.YtkmgflnmffdhjaaGreatDoor
