/- The texts of ParseDeep, of kind 4. -/
import Derived.Test.YtbcflcnkhhkogaaGreatDoorZb42
set_option maxRecDepth 10000

namespace Go.Proofs.YtbcflcnkhhkogaaGreatDoor
open Go.RowKit

theorem dp_4 : dpRow 4 = true := by decide +kernel

end Go.Proofs.YtbcflcnkhhkogaaGreatDoor
