/- The texts of ParseDeep, of kind 5. -/
import Derived.Test.YtbcflcnkhhkogaaGreatDoorZb42
set_option maxRecDepth 10000

namespace Go.Proofs.YtbcflcnkhhkogaaGreatDoor
open Go.RowKit

theorem dp_5 : dpRow 5 = true := by decide +kernel

end Go.Proofs.YtbcflcnkhhkogaaGreatDoor
