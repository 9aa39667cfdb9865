/- A region that draws its order and calls what makes memory alone. -/
import Derived.Test.YtjopfpchbakggaaGrLaw
import Derived.Deep.QuietTactic
import Derived.BigQuiet
set_option linter.unusedSimpArgs false
set_option linter.unusedVariables false
set_option maxRecDepth 10000
namespace Go.Proofs.Ytjopfpchbakggaa
open Go.RowKit

/-- A world in which memory was made since W, nothing else. -/
structure RGw (W : World) where
  w : World
  h : Ext W w

/-- A region that draws its order, whose operations read memory that stands there and whose calls make memory alone: one walk of the text's order serves every order. -/
theorem wp_region_rx {P : Program} {id : Nat} {Q : Exit → Act → World → Prop} {a : Act} {w W : World} {l : List Oper} (hm : P.follows .mixedOrders = true) (hB : Region.lexB .any l.toArray = true) (hw : Ext W w)
    (h : wpQuiet P l.toArray (fun w' => ∃ n : RGw W, w' = n.w) (fun a' => ∀ w', (∃ n : RGw W, w' = n.w) → Q .normal a' w') l a) : (Code.region id l.toArray true).wp P Q a w :=
  wp_region_quiet (C := fun w' => ∃ n : RGw W, w' = n.w) hm hB ⟨⟨_, Ext.drew hw⟩, rfl⟩ (by simpa using h)

theorem Calls.rx_of {P : Program} {f : FuncId} {args : Array Value} {W : World} (n : RGw W) (v : Value) (h : Calls P f args n.w fun e w' => e = .returned v ∧ Ext n.w w') :
    Calls P f args n.w fun e w'' => e = .returned v ∧ ∃ m : RGw W, w'' = m.w :=
  h.mono fun _ _ ⟨he, hx⟩ => ⟨he, ⟨_, n.h.trans hx⟩, rfl⟩

end Go.Proofs.Ytjopfpchbakggaa
