/- ColorAssigns at rows of any length, given what is asked of color. -/
import Derived.Test.YtjopfpchbakggaaCoH
set_option linter.unusedSimpArgs false
set_option linter.unusedVariables false
set_option maxRecDepth 10000
namespace Go.Proofs.Ytjopfpchbakggaa
open Go.RowKit

theorem assigns_any (l : List T3) (n : Int) (a : Option Addr) (cap : Nat) (w : World) (hr : RepI w (In w) a (tpI l)) (HC : Hd CasIs) (HS : Hd SlotsIs) (HA : Hd AwkIs) : Calls Try.prog 4 #[.slice a l.length cap, .int .i64 n] w fun e w' => e = .returned (.bool true) ∧ Ext w w' := by
  by_cases hl : l.length ≤ 80
  · exact assigns_w l n a cap w hl hr HC HS HA
  · have hl2 : 80 < (l.length : Int) := by omega
    clear hl hr
    go_enter Try.func4, Try.ntmps4
    go_wp2_with (go_at_call 8; refine Calls.mono (unhide HA _) ?_; rintro e w6 ⟨rfl, hx⟩; have X6 := hide hx; clear hx)
    go_ret
    exact ⟨rfl, unhide X6⟩

end Go.Proofs.Ytjopfpchbakggaa
