/- The texts of ParseBlocks, some of them. -/
import Derived.Test.YthoablpjkgeekaaGreatDoorZb28
set_option maxRecDepth 10000

namespace Go.Proofs.YthoablpjkgeekaaGreatDoor
open Go.RowKit

set_option maxHeartbeats 0 in
theorem bk_2 : ((List.range 10).all fun i => bkOkU (i + 30)) = true := by kernel_rfl

end Go.Proofs.YthoablpjkgeekaaGreatDoor
