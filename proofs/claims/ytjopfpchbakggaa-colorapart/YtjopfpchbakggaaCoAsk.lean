/- What is asked of the package color holds of its code. -/
import Derived.Test.YtjopfpchbakggaaCoT
import Derived.Test.YtjopfpchbakggaaCoSl
import Derived.Test.YtjopfpchbakggaaCoAw
namespace Go.Proofs.Ytjopfpchbakggaa

theorem asks : Hd CasIs ∧ Hd SlotsIs ∧ Hd OverIs ∧ Hd AwkIs := ⟨hide cas_w, hide slots_w, hide over_w, hide (awk_w (hide cas_w) (hide slots_w) (hide over_w))⟩

end Go.Proofs.Ytjopfpchbakggaa
