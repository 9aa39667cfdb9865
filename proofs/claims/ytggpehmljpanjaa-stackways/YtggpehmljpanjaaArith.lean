/- What the program's and the document's sums, differences, products and quotients give: the same functions of the parts' words. -/
import Derived.Test.YtggpehmljpanjaaNum
set_option linter.unusedSimpArgs false
namespace Go.Proofs.Ytggpehmljpanjaa

/-- The product of two finite words. -/
def mulV (x y : Nat) : Nat := (D.mul x y).getD 0
theorem mulV_eq {x y r : Nat} (h : D.mul x y = some r) : mulV x y = r := by unfold mulV; rw [h]; rfl

end Go.Proofs.Ytggpehmljpanjaa
