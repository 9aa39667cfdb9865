/- The texts with 2 parameters, read by the kernel. -/
import Derived.Test.YteajjfhehicfgaaGreatDoorZb16
set_option linter.unusedSimpArgs false
set_option linter.unusedVariables false
set_option maxRecDepth 10000

namespace Go.Proofs.YteajjfhehicfgaaGreatDoor

theorem slOk_2_0 : slOk 2 0 = true := by kernel_rfl
theorem slOk_2_1 : slOk 2 1 = true := by kernel_rfl
theorem slOk_2_2 : slOk 2 2 = true := by kernel_rfl
theorem slOk_2_3 : slOk 2 3 = true := by kernel_rfl
theorem slOk_2_4 : slOk 2 4 = true := by kernel_rfl
theorem slOk_2_5 : slOk 2 5 = true := by kernel_rfl
theorem slOk_2_6 : slOk 2 6 = true := by kernel_rfl
theorem slOk_2_7 : slOk 2 7 = true := by kernel_rfl
theorem slOk_2_8 : slOk 2 8 = true := by kernel_rfl
theorem slOk_2_9 : slOk 2 9 = true := by kernel_rfl
theorem slOk_2_10 : slOk 2 10 = true := by kernel_rfl
theorem slOk_2_11 : slOk 2 11 = true := by kernel_rfl
theorem slOk_2_12 : slOk 2 12 = true := by kernel_rfl
theorem slOk_2_13 : slOk 2 13 = true := by kernel_rfl
theorem slOk_2_14 : slOk 2 14 = true := by kernel_rfl
theorem slOk_2_15 : slOk 2 15 = true := by kernel_rfl
theorem slOk_2_16 : slOk 2 16 = true := by kernel_rfl
theorem slOk_2_17 : slOk 2 17 = true := by kernel_rfl
theorem slOk_2_18 : slOk 2 18 = true := by kernel_rfl
theorem slOk_2_19 : slOk 2 19 = true := by kernel_rfl
theorem slOk_2_20 : slOk 2 20 = true := by kernel_rfl

end Go.Proofs.YteajjfhehicfgaaGreatDoor
