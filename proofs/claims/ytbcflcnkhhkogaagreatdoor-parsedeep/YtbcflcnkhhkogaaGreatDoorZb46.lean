/- The texts of ParseDeep, of kind 3. -/
import Derived.Test.YtbcflcnkhhkogaaGreatDoorZb42
set_option maxRecDepth 10000

namespace Go.Proofs.YtbcflcnkhhkogaaGreatDoor
open Go.RowKit

theorem dp_3 : dpRow 3 = true := by decide +kernel

end Go.Proofs.YtbcflcnkhhkogaaGreatDoor
