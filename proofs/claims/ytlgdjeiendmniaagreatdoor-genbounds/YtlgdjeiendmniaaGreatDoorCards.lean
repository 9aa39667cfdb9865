/-
  DERIVED. GIVEN WITH THE SEED: THE CARDS: each row of YtlgdjeiendmniaaGreatDoorRows.lean that lists a variable, with what it lists TIED to the program's text (the seventh form; the later family's looks); each row that meets fmt, with fmt's text TOLD by the authors' own Lean function (tested against real Go, not proved from fmt's source: count such statements apart). THE CARD IS WHAT COUNTS. Prove the row's statement (the work); the ties are given (YtlgdjeiendmniaaGreatDoorTie.lean); close each card by the builder's one call (the guide's Derived/Test/ToyasCard.lean, 'card_holds'). Laid BY PROGRAM, IN A SANDBOX (cutbox-door.mjs). By AI agents, Wed Nov 11 2026. No macro, syntax, notation, axiom, sorry.
-/
import Derived.Test.YtlgdjeiendmniaaGreatDoorRows
import GoSem.ClaimSeven
namespace Go.Proofs.YtlgdjeiendmniaaGreatDoor
namespace Rows

/-- THE TIED CARD OF 'ratlinelaw8.GenTicks'. -/
def genTicksCard : Claim7 := { stood := { row := genTicksRow, standIns := [], harness := (true, "4b0fdd719fa27abfb4777dbb494ab0fc04d407ff56e964e2a19b0f22c92486c0"), looks := true }, kinds := [], alts := [], laidByText := true, laidKinds := [.data, .data, .data, .sentinel, .sentinel, .data, .data, .data, .data], laidTests := true, laidLooks := .later }
def GenTicksCardSaid : Prop := Claim7.holds Tryz.pinned (.plain (OpenSpec.ofChange genTicksSpec)) genTicksCard

/-- THE TIED CARD OF 'ratlinelaw8.GenBounds'. -/
def genBoundsCard : Claim7 := { stood := { row := genBoundsRow, standIns := [], harness := (true, "4b0fdd719fa27abfb4777dbb494ab0fc04d407ff56e964e2a19b0f22c92486c0"), looks := true }, kinds := [], alts := [], laidByText := true, laidKinds := [.data, .data, .data, .sentinel, .sentinel, .data, .data, .data, .data], laidTests := true, laidLooks := .later }
def GenBoundsCardSaid : Prop := Claim7.holds Tryz.pinned (.plain (OpenSpec.ofChange genBoundsSpec)) genBoundsCard

/-- THE SECOND FORM's CARD OF 'ratlinelaw8.GenTicks'. -/
def genTicksUptoCard : Claim7 := { stood := { row := genTicksUptoRow, standIns := [], harness := (true, "4b0fdd719fa27abfb4777dbb494ab0fc04d407ff56e964e2a19b0f22c92486c0"), looks := true }, kinds := [], alts := [], laidByText := true, laidKinds := [.data, .data, .data, .sentinel, .sentinel, .data, .data, .data, .data], laidTests := true, laidLooks := .later }
def GenTicksUptoCardSaid : Prop := Claim7.holds Tryz.pinned (.plain (OpenSpec.upto genTicksSpec)) genTicksUptoCard

/-- THE SECOND FORM's CARD OF 'ratlinelaw8.GenBounds'. -/
def genBoundsUptoCard : Claim7 := { stood := { row := genBoundsUptoRow, standIns := [], harness := (true, "4b0fdd719fa27abfb4777dbb494ab0fc04d407ff56e964e2a19b0f22c92486c0"), looks := true }, kinds := [], alts := [], laidByText := true, laidKinds := [.data, .data, .data, .sentinel, .sentinel, .data, .data, .data, .data], laidTests := true, laidLooks := .later }
def GenBoundsUptoCardSaid : Prop := Claim7.holds Tryz.pinned (.plain (OpenSpec.upto genBoundsSpec)) genBoundsUptoCard
end Rows
end Go.Proofs.YtlgdjeiendmniaaGreatDoor
