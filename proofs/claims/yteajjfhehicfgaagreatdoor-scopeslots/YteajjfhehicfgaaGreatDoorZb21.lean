/- The texts with 3 parameters, read by the kernel. -/
import Derived.Test.YteajjfhehicfgaaGreatDoorZb16
set_option linter.unusedSimpArgs false
set_option linter.unusedVariables false
set_option maxRecDepth 10000

namespace Go.Proofs.YteajjfhehicfgaaGreatDoor

theorem slOk_3_0 : slOk 3 0 = true := by kernel_rfl
theorem slOk_3_1 : slOk 3 1 = true := by kernel_rfl
theorem slOk_3_2 : slOk 3 2 = true := by kernel_rfl
theorem slOk_3_3 : slOk 3 3 = true := by kernel_rfl
theorem slOk_3_4 : slOk 3 4 = true := by kernel_rfl
theorem slOk_3_5 : slOk 3 5 = true := by kernel_rfl
theorem slOk_3_6 : slOk 3 6 = true := by kernel_rfl
theorem slOk_3_7 : slOk 3 7 = true := by kernel_rfl
theorem slOk_3_8 : slOk 3 8 = true := by kernel_rfl
theorem slOk_3_9 : slOk 3 9 = true := by kernel_rfl
theorem slOk_3_10 : slOk 3 10 = true := by kernel_rfl
theorem slOk_3_11 : slOk 3 11 = true := by kernel_rfl
theorem slOk_3_12 : slOk 3 12 = true := by kernel_rfl
theorem slOk_3_13 : slOk 3 13 = true := by kernel_rfl
theorem slOk_3_14 : slOk 3 14 = true := by kernel_rfl
theorem slOk_3_15 : slOk 3 15 = true := by kernel_rfl
theorem slOk_3_16 : slOk 3 16 = true := by kernel_rfl
theorem slOk_3_17 : slOk 3 17 = true := by kernel_rfl
theorem slOk_3_18 : slOk 3 18 = true := by kernel_rfl
theorem slOk_3_19 : slOk 3 19 = true := by kernel_rfl
theorem slOk_3_20 : slOk 3 20 = true := by kernel_rfl

end Go.Proofs.YteajjfhehicfgaaGreatDoor
