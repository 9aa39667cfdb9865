/- A walk through points: what it is that a world holds it; which point it goes to next. -/
import Derived.Test.YtjopfpchbakggaaGrRep
set_option linter.unusedSimpArgs false
set_option linter.unusedVariables false
set_option maxRecDepth 10000
namespace Go.Proofs.Ytjopfpchbakggaa
open Go.RowKit

/-- The block of a slice. -/
abbrev obk (oa : Option Addr) : Option Nat := (Value.slice oa 0 0).ownBlock
theorem obk_eq (oa : Option Addr) (n c : Nat) : (Value.slice oa n c).ownBlock = obk oa := by cases oa <;> rfl

section
variable {w0 w w' : World} {B S N Y : Nat} {ga : Option Addr} {gc n : Nat} {st : GW} {ma : Option Addr} {mc : Nat} {la : Option Addr} {lc : Nat}
end

theorem gScan_hit {n : Nat} {sh : List Bool} {x : Int} {r : List Int} (h1 : gPt n x = true) (h2 : sh[x.toNat]? = some false) : gScan n sh (x :: r) = (1, some x.toNat) := by
  rw [gScan, if_pos]; simp [h1, h2]
theorem gScan_no {n : Nat} {sh : List Bool} {x : Int} {r : List Int} (h : gPt n x = false ∨ sh[x.toNat]? = some true) : gScan n sh (x :: r) = ((gScan n sh r).1 + 1, (gScan n sh r).2) := by
  rw [gScan, if_neg]
  rcases h with h | h <;> simp [h]
theorem gScan_le (n : Nat) (sh : List Bool) : ∀ (l : List Int), (gScan n sh l).1 ≤ l.length
  | [] => by simp [gScan]
  | x :: r => by
    have := gScan_le n sh r
    rw [gScan]
    split
    · simp
    · simp; omega

end Go.Proofs.Ytjopfpchbakggaa
