/- ColorApart at rows of any length, given what is asked of color. -/
import Derived.Test.YtjopfpchbakggaaCoH
import Derived.Test.YtjopfpchbakggaaCoN
set_option linter.unusedSimpArgs false
set_option linter.unusedVariables false
set_option maxRecDepth 10000
namespace Go.Proofs.Ytjopfpchbakggaa
open Go.RowKit

theorem apart_any (l : List T3) (n : Int) (a : Option Addr) (cap : Nat) (w : World) (hr : RepI w (In w) a (tpI l)) (HC : Hd CasIs) (HO : Hd OverIs) (HA : Hd AwkIs) : Calls Try.prog 5 #[.slice a l.length cap, .int .i64 n] w fun e w' => e = .returned (.bool true) ∧ Ext w w' := by
  by_cases hl : l.length ≤ 60
  · exact apart_w l n a cap w hl hr HC HO HA
  · have hl2 : 60 < (l.length : Int) := by omega
    clear hl hr
    go_enter Try.func5, Try.ntmps5
    go_wp2_with (go_at_call 8; refine Calls.mono (unhide HA _) ?_; rintro e w6 ⟨rfl, hx⟩; have X6 := hide hx; clear hx)
    go_ret
    exact ⟨rfl, unhide X6⟩

end Go.Proofs.Ytjopfpchbakggaa
