/-
  DERIVED. GIVEN WITH THE SEED: THE CARDS: each row of YteajjfhehicfgaaGreatDoorRows.lean that lists a variable, with what it lists TIED to the program's text (the seventh form; the later family's looks); each row that meets fmt, with fmt's text TOLD by the authors' own Lean function (tested against real Go, not proved from fmt's source: count such statements apart). THE CARD IS WHAT COUNTS. Prove the row's statement (the work); the ties are given (YteajjfhehicfgaaGreatDoorTie.lean); close each card by the builder's one call (the guide's Derived/Test/ToyasCard.lean, 'card_holds'). Laid BY PROGRAM, IN A SANDBOX (cutbox-door.mjs). By AI agents, Wed Nov 11 2026. No macro, syntax, notation, axiom, sorry.
-/
import Derived.Test.YteajjfhehicfgaaGreatDoorRows
import GoSem.ClaimSeven
namespace Go.Proofs.YteajjfhehicfgaaGreatDoor
namespace Rows

/-- THE TIED CARD OF 'ratlinelaw6.ScopeSlots'. -/
def scopeSlotsCard : Claim7 := { stood := { row := scopeSlotsRow, standIns := [], harness := (true, "d67034fa53977cb7da8419984f06db4f9e7ff2b29eca8f639ae8849f8eefbf12"), looks := true }, kinds := [], alts := [], laidByText := true, laidKinds := [.data, .data, .data, .sentinel, .sentinel, .data, .data, .data], laidTests := true, laidLooks := .later }
def ScopeSlotsCardSaid : Prop := Claim7.holds Tryz.pinned (.plain (OpenSpec.ofChange scopeSlotsSpec)) scopeSlotsCard

/-- THE TIED CARD OF 'ratlinelaw6.ScopeTells'. -/
def scopeTellsCard : Claim7 := { stood := { row := scopeTellsRow, standIns := [], harness := (true, "d67034fa53977cb7da8419984f06db4f9e7ff2b29eca8f639ae8849f8eefbf12"), looks := true }, kinds := [], alts := [], laidByText := true, laidKinds := [.data, .data, .data, .sentinel, .sentinel, .data, .data, .data], laidTests := true, laidLooks := .later }
def ScopeTellsCardSaid : Prop := Claim7.holds Tryz.pinned (.plain (OpenSpec.ofChange scopeTellsSpec)) scopeTellsCard

/-- THE TIED CARD OF 'ratlinelaw6.ScopeBuiltins'. -/
def scopeBuiltinsCard : Claim7 := { stood := { row := scopeBuiltinsRow, standIns := [], harness := (true, "d67034fa53977cb7da8419984f06db4f9e7ff2b29eca8f639ae8849f8eefbf12"), looks := true }, kinds := [], alts := [], laidByText := true, laidKinds := [.data, .data, .data, .sentinel, .sentinel, .data, .data, .data], laidTests := true, laidLooks := .later }
def ScopeBuiltinsCardSaid : Prop := Claim7.holds Tryz.pinned (.plain (OpenSpec.ofChange scopeBuiltinsSpec)) scopeBuiltinsCard

/-- THE TIED CARD OF 'ratlinelaw6.ScopeBlocks'. -/
def scopeBlocksCard : Claim7 := { stood := { row := scopeBlocksRow, standIns := [], harness := (true, "d67034fa53977cb7da8419984f06db4f9e7ff2b29eca8f639ae8849f8eefbf12"), looks := true }, kinds := [], alts := [], laidByText := true, laidKinds := [.data, .data, .data, .sentinel, .sentinel, .data, .data, .data], laidTests := true, laidLooks := .later }
def ScopeBlocksCardSaid : Prop := Claim7.holds Tryz.pinned (.plain (OpenSpec.ofChange scopeBlocksSpec)) scopeBlocksCard

/-- THE SECOND FORM's CARD OF 'ratlinelaw6.ScopeSlots'. -/
def scopeSlotsUptoCard : Claim7 := { stood := { row := scopeSlotsUptoRow, standIns := [], harness := (true, "d67034fa53977cb7da8419984f06db4f9e7ff2b29eca8f639ae8849f8eefbf12"), looks := true }, kinds := [], alts := [], laidByText := true, laidKinds := [.data, .data, .data, .sentinel, .sentinel, .data, .data, .data], laidTests := true, laidLooks := .later }
def ScopeSlotsUptoCardSaid : Prop := Claim7.holds Tryz.pinned (.plain (OpenSpec.upto scopeSlotsSpec)) scopeSlotsUptoCard

/-- THE SECOND FORM's CARD OF 'ratlinelaw6.ScopeTells'. -/
def scopeTellsUptoCard : Claim7 := { stood := { row := scopeTellsUptoRow, standIns := [], harness := (true, "d67034fa53977cb7da8419984f06db4f9e7ff2b29eca8f639ae8849f8eefbf12"), looks := true }, kinds := [], alts := [], laidByText := true, laidKinds := [.data, .data, .data, .sentinel, .sentinel, .data, .data, .data], laidTests := true, laidLooks := .later }
def ScopeTellsUptoCardSaid : Prop := Claim7.holds Tryz.pinned (.plain (OpenSpec.upto scopeTellsSpec)) scopeTellsUptoCard

/-- THE SECOND FORM's CARD OF 'ratlinelaw6.ScopeBuiltins'. -/
def scopeBuiltinsUptoCard : Claim7 := { stood := { row := scopeBuiltinsUptoRow, standIns := [], harness := (true, "d67034fa53977cb7da8419984f06db4f9e7ff2b29eca8f639ae8849f8eefbf12"), looks := true }, kinds := [], alts := [], laidByText := true, laidKinds := [.data, .data, .data, .sentinel, .sentinel, .data, .data, .data], laidTests := true, laidLooks := .later }
def ScopeBuiltinsUptoCardSaid : Prop := Claim7.holds Tryz.pinned (.plain (OpenSpec.upto scopeBuiltinsSpec)) scopeBuiltinsUptoCard

/-- THE SECOND FORM's CARD OF 'ratlinelaw6.ScopeBlocks'. -/
def scopeBlocksUptoCard : Claim7 := { stood := { row := scopeBlocksUptoRow, standIns := [], harness := (true, "d67034fa53977cb7da8419984f06db4f9e7ff2b29eca8f639ae8849f8eefbf12"), looks := true }, kinds := [], alts := [], laidByText := true, laidKinds := [.data, .data, .data, .sentinel, .sentinel, .data, .data, .data], laidTests := true, laidLooks := .later }
def ScopeBlocksUptoCardSaid : Prop := Claim7.holds Tryz.pinned (.plain (OpenSpec.upto scopeBlocksSpec)) scopeBlocksUptoCard
end Rows
end Go.Proofs.YteajjfhehicfgaaGreatDoor
