/- The texts with 1 parameters, read by the kernel. -/
import Derived.Test.YteajjfhehicfgaaGreatDoorZb16
set_option linter.unusedSimpArgs false
set_option linter.unusedVariables false
set_option maxRecDepth 10000

namespace Go.Proofs.YteajjfhehicfgaaGreatDoor

theorem slOk_1_0 : slOk 1 0 = true := by kernel_rfl
theorem slOk_1_1 : slOk 1 1 = true := by kernel_rfl
theorem slOk_1_2 : slOk 1 2 = true := by kernel_rfl
theorem slOk_1_3 : slOk 1 3 = true := by kernel_rfl
theorem slOk_1_4 : slOk 1 4 = true := by kernel_rfl
theorem slOk_1_5 : slOk 1 5 = true := by kernel_rfl
theorem slOk_1_6 : slOk 1 6 = true := by kernel_rfl
theorem slOk_1_7 : slOk 1 7 = true := by kernel_rfl
theorem slOk_1_8 : slOk 1 8 = true := by kernel_rfl
theorem slOk_1_9 : slOk 1 9 = true := by kernel_rfl
theorem slOk_1_10 : slOk 1 10 = true := by kernel_rfl
theorem slOk_1_11 : slOk 1 11 = true := by kernel_rfl
theorem slOk_1_12 : slOk 1 12 = true := by kernel_rfl
theorem slOk_1_13 : slOk 1 13 = true := by kernel_rfl
theorem slOk_1_14 : slOk 1 14 = true := by kernel_rfl
theorem slOk_1_15 : slOk 1 15 = true := by kernel_rfl
theorem slOk_1_16 : slOk 1 16 = true := by kernel_rfl
theorem slOk_1_17 : slOk 1 17 = true := by kernel_rfl
theorem slOk_1_18 : slOk 1 18 = true := by kernel_rfl
theorem slOk_1_19 : slOk 1 19 = true := by kernel_rfl
theorem slOk_1_20 : slOk 1 20 = true := by kernel_rfl

end Go.Proofs.YteajjfhehicfgaaGreatDoor
