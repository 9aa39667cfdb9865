/- The texts of GenTicks with 3 loops in f, read by the kernel. -/
import Derived.Test.YtlgdjeiendmniaaGreatDoorZg39
set_option maxRecDepth 100000

namespace Go.Proofs.YtlgdjeiendmniaaGreatDoor
open Go.RowKit Go.Maps

set_option maxHeartbeats 0 in
theorem tkr_3_0 : (List.range 8).all (fun c => tkOk 0 c 3) = true := by kernel_rfl
set_option maxHeartbeats 0 in
theorem tkr_3_1 : (List.range 8).all (fun c => tkOk 1 c 3) = true := by kernel_rfl
set_option maxHeartbeats 0 in
theorem tkr_3_2 : (List.range 8).all (fun c => tkOk 2 c 3) = true := by kernel_rfl
set_option maxHeartbeats 0 in
theorem tkr_3_3 : (List.range 8).all (fun c => tkOk 3 c 3) = true := by kernel_rfl
set_option maxHeartbeats 0 in
theorem tkr_3_4 : (List.range 8).all (fun c => tkOk 4 c 3) = true := by kernel_rfl
set_option maxHeartbeats 0 in
theorem tkr_3_5 : (List.range 8).all (fun c => tkOk 5 c 3) = true := by kernel_rfl
set_option maxHeartbeats 0 in
theorem tkr_3_6 : (List.range 8).all (fun c => tkOk 6 c 3) = true := by kernel_rfl
set_option maxHeartbeats 0 in
theorem tkr_3_7 : (List.range 8).all (fun c => tkOk 7 c 3) = true := by kernel_rfl

end Go.Proofs.YtlgdjeiendmniaaGreatDoor
