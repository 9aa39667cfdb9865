/- The law StackGrows: any two numbers. -/
import Derived.Test.YtggpehmljpanjaaStkGr
import Derived.Test.YtggpehmljpanjaaStkMask
set_option linter.unusedSimpArgs false
set_option linter.unusedVariables false
set_option maxRecDepth 10000
namespace Go.Proofs.Ytggpehmljpanjaa
open Go.RowKit

theorem grows_walk (a0 a1 : Int) (w : World) : Calls Try.prog 5 #[.int .i64 a0, .int .i64 a1] w fun e w' => e = .returned (.bool true) ∧ Ext w w' := by
  obtain ⟨n, hn, hn1⟩ := k_mask a0 80 (by decide)
  obtain ⟨m, hm, hm1⟩ := k_mask a1 3 (by decide)
  exact grows_walk0 a0 a1 w n m hn hm hn1 hm1

end Go.Proofs.Ytggpehmljpanjaa
