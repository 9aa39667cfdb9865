/-
  DERIVED. GIVEN WITH THE SEED: THE CARDS: each row of YthoablpjkgeekaaGreatDoorRows.lean that lists a variable, with what it lists TIED to the program's text (the seventh form; the later family's looks); each row that meets fmt, with fmt's text TOLD by the authors' own Lean function (tested against real Go, not proved from fmt's source: count such statements apart). THE CARD IS WHAT COUNTS. Prove the row's statement (the work); the ties are given (YthoablpjkgeekaaGreatDoorTie.lean); close each card by the builder's one call (the guide's Derived/Test/ToyasCard.lean, 'card_holds'). Laid BY PROGRAM, IN A SANDBOX (cutbox-door.mjs). By AI agents, Wed Nov 11 2026. No macro, syntax, notation, axiom, sorry.
-/
import Derived.Test.YthoablpjkgeekaaGreatDoorRows
import GoSem.ClaimSeven
namespace Go.Proofs.YthoablpjkgeekaaGreatDoor
namespace Rows

/-- THE TIED CARD OF 'ratlinelaw5.ParsePrograms'. -/
def parseProgramsCard : Claim7 := { stood := { row := parseProgramsRow, standIns := [], harness := (true, "9a1d19d234b1b45779c30c20cb40f6c183fc11f99f5505a9d4ad5199cbf48e43"), looks := true }, kinds := [], alts := [], laidByText := true, laidKinds := [.data, .data, .data, .sentinel, .sentinel, .data], laidTests := true, laidLooks := .later }
def ParseProgramsCardSaid : Prop := Claim7.holds Tryz.pinned (.plain (OpenSpec.ofChange parseProgramsSpec)) parseProgramsCard

/-- THE TIED CARD OF 'ratlinelaw5.ParseExprs'. -/
def parseExprsCard : Claim7 := { stood := { row := parseExprsRow, standIns := [], harness := (true, "9a1d19d234b1b45779c30c20cb40f6c183fc11f99f5505a9d4ad5199cbf48e43"), looks := true }, kinds := [], alts := [], laidByText := true, laidKinds := [.data, .data, .data, .sentinel, .sentinel, .data], laidTests := true, laidLooks := .later }
def ParseExprsCardSaid : Prop := Claim7.holds Tryz.pinned (.plain (OpenSpec.ofChange parseExprsSpec)) parseExprsCard

/-- THE TIED CARD OF 'ratlinelaw5.ParseBlocks'. -/
def parseBlocksCard : Claim7 := { stood := { row := parseBlocksRow, standIns := [], harness := (true, "9a1d19d234b1b45779c30c20cb40f6c183fc11f99f5505a9d4ad5199cbf48e43"), looks := true }, kinds := [], alts := [], laidByText := true, laidKinds := [.data, .data, .data, .sentinel, .sentinel, .data], laidTests := true, laidLooks := .later }
def ParseBlocksCardSaid : Prop := Claim7.holds Tryz.pinned (.plain (OpenSpec.ofChange parseBlocksSpec)) parseBlocksCard

/-- THE SECOND FORM's CARD OF 'ratlinelaw5.ParsePrograms'. -/
def parseProgramsUptoCard : Claim7 := { stood := { row := parseProgramsUptoRow, standIns := [], harness := (true, "9a1d19d234b1b45779c30c20cb40f6c183fc11f99f5505a9d4ad5199cbf48e43"), looks := true }, kinds := [], alts := [], laidByText := true, laidKinds := [.data, .data, .data, .sentinel, .sentinel, .data], laidTests := true, laidLooks := .later }
def ParseProgramsUptoCardSaid : Prop := Claim7.holds Tryz.pinned (.plain (OpenSpec.upto parseProgramsSpec)) parseProgramsUptoCard

/-- THE SECOND FORM's CARD OF 'ratlinelaw5.ParseExprs'. -/
def parseExprsUptoCard : Claim7 := { stood := { row := parseExprsUptoRow, standIns := [], harness := (true, "9a1d19d234b1b45779c30c20cb40f6c183fc11f99f5505a9d4ad5199cbf48e43"), looks := true }, kinds := [], alts := [], laidByText := true, laidKinds := [.data, .data, .data, .sentinel, .sentinel, .data], laidTests := true, laidLooks := .later }
def ParseExprsUptoCardSaid : Prop := Claim7.holds Tryz.pinned (.plain (OpenSpec.upto parseExprsSpec)) parseExprsUptoCard

/-- THE SECOND FORM's CARD OF 'ratlinelaw5.ParseBlocks'. -/
def parseBlocksUptoCard : Claim7 := { stood := { row := parseBlocksUptoRow, standIns := [], harness := (true, "9a1d19d234b1b45779c30c20cb40f6c183fc11f99f5505a9d4ad5199cbf48e43"), looks := true }, kinds := [], alts := [], laidByText := true, laidKinds := [.data, .data, .data, .sentinel, .sentinel, .data], laidTests := true, laidLooks := .later }
def ParseBlocksUptoCardSaid : Prop := Claim7.holds Tryz.pinned (.plain (OpenSpec.upto parseBlocksSpec)) parseBlocksUptoCard
end Rows
end Go.Proofs.YthoablpjkgeekaaGreatDoor
