/- The texts with 0 parameters, read by the kernel. -/
import Derived.Test.YteajjfhehicfgaaGreatDoorZb16
set_option linter.unusedSimpArgs false
set_option linter.unusedVariables false
set_option maxRecDepth 10000

namespace Go.Proofs.YteajjfhehicfgaaGreatDoor

theorem slOk_0_0 : slOk 0 0 = true := by kernel_rfl
theorem slOk_0_1 : slOk 0 1 = true := by kernel_rfl
theorem slOk_0_2 : slOk 0 2 = true := by kernel_rfl
theorem slOk_0_3 : slOk 0 3 = true := by kernel_rfl
theorem slOk_0_4 : slOk 0 4 = true := by kernel_rfl
theorem slOk_0_5 : slOk 0 5 = true := by kernel_rfl
theorem slOk_0_6 : slOk 0 6 = true := by kernel_rfl
theorem slOk_0_7 : slOk 0 7 = true := by kernel_rfl
theorem slOk_0_8 : slOk 0 8 = true := by kernel_rfl
theorem slOk_0_9 : slOk 0 9 = true := by kernel_rfl
theorem slOk_0_10 : slOk 0 10 = true := by kernel_rfl
theorem slOk_0_11 : slOk 0 11 = true := by kernel_rfl
theorem slOk_0_12 : slOk 0 12 = true := by kernel_rfl
theorem slOk_0_13 : slOk 0 13 = true := by kernel_rfl
theorem slOk_0_14 : slOk 0 14 = true := by kernel_rfl
theorem slOk_0_15 : slOk 0 15 = true := by kernel_rfl
theorem slOk_0_16 : slOk 0 16 = true := by kernel_rfl
theorem slOk_0_17 : slOk 0 17 = true := by kernel_rfl
theorem slOk_0_18 : slOk 0 18 = true := by kernel_rfl
theorem slOk_0_19 : slOk 0 19 = true := by kernel_rfl
theorem slOk_0_20 : slOk 0 20 = true := by kernel_rfl

end Go.Proofs.YteajjfhehicfgaaGreatDoor
