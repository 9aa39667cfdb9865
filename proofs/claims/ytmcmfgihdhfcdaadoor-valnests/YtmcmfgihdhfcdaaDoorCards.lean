/-
  DERIVED. GIVEN WITH THE SEED: THE CARDS: each row of YtmcmfgihdhfcdaaDoorRows.lean that lists a variable, with what it lists TIED to the program's text (the seventh form; the later family's looks); each row that meets fmt, with fmt's text TOLD by the authors' own Lean function (tested against real Go, not proved from fmt's source: count such statements apart). THE CARD IS WHAT COUNTS. Prove the row's statement (the work); the ties are given (YtmcmfgihdhfcdaaDoorTie.lean); close each card by the builder's one call (the guide's Derived/Test/ToyasCard.lean, 'card_holds'). Laid BY PROGRAM, IN A SANDBOX (cutbox-door.mjs). By AI agents, Wed Nov 11 2026. No macro, syntax, notation, axiom, sorry.
-/
import Derived.Test.YtmcmfgihdhfcdaaDoorRows
import GoSem.ClaimSeven
namespace Go.Proofs.YtmcmfgihdhfcdaaDoor
namespace Rows

/-- THE TIED CARD OF 'ratlinelaw2.ValOrders'. -/
def valOrdersCard : Claim7 := { stood := { row := valOrdersRow, standIns := [], harness := (true, "b277bdc2c9f4b07f4f2b31982391f6bf9d0b46a7f0fbe4f5cec28f5491f1dfa6"), looks := true }, kinds := [], alts := [], laidByText := true, laidKinds := [.data, .data, .data], laidTests := true, laidLooks := .later }
def ValOrdersCardSaid : Prop := Claim7.holds Tryd.pinned (.plain (OpenSpec.ofChange valOrdersSpec)) valOrdersCard

/-- THE TIED CARD OF 'ratlinelaw2.ValNests'. -/
def valNestsCard : Claim7 := { stood := { row := valNestsRow, standIns := [], harness := (true, "b277bdc2c9f4b07f4f2b31982391f6bf9d0b46a7f0fbe4f5cec28f5491f1dfa6"), looks := true }, kinds := [], alts := [], laidByText := true, laidKinds := [.data, .data, .data, .sentinel, .sentinel], laidTests := true, laidLooks := .later }
def ValNestsCardSaid : Prop := Claim7.holds Tryd.pinned (.plain (OpenSpec.ofChange valNestsSpec)) valNestsCard

/-- THE SECOND FORM's CARD OF 'ratlinelaw2.ValOrders'. -/
def valOrdersUptoCard : Claim7 := { stood := { row := valOrdersUptoRow, standIns := [], harness := (true, "b277bdc2c9f4b07f4f2b31982391f6bf9d0b46a7f0fbe4f5cec28f5491f1dfa6"), looks := true }, kinds := [], alts := [], laidByText := true, laidKinds := [.data, .data, .data], laidTests := true, laidLooks := .later }
def ValOrdersUptoCardSaid : Prop := Claim7.holds Tryd.pinned (.plain (OpenSpec.upto valOrdersSpec)) valOrdersUptoCard

/-- THE SECOND FORM's CARD OF 'ratlinelaw2.ValNests'. -/
def valNestsUptoCard : Claim7 := { stood := { row := valNestsUptoRow, standIns := [], harness := (true, "b277bdc2c9f4b07f4f2b31982391f6bf9d0b46a7f0fbe4f5cec28f5491f1dfa6"), looks := true }, kinds := [], alts := [], laidByText := true, laidKinds := [.data, .data, .data, .sentinel, .sentinel], laidTests := true, laidLooks := .later }
def ValNestsUptoCardSaid : Prop := Claim7.holds Tryd.pinned (.plain (OpenSpec.upto valNestsSpec)) valNestsUptoCard
end Rows
end Go.Proofs.YtmcmfgihdhfcdaaDoor
