/- The texts with 8 parameters, read by the kernel. -/
import Derived.Test.YteajjfhehicfgaaGreatDoorZb16
set_option linter.unusedSimpArgs false
set_option linter.unusedVariables false
set_option maxRecDepth 10000

namespace Go.Proofs.YteajjfhehicfgaaGreatDoor

theorem slOk_8_0 : slOk 8 0 = true := by kernel_rfl
theorem slOk_8_1 : slOk 8 1 = true := by kernel_rfl
theorem slOk_8_2 : slOk 8 2 = true := by kernel_rfl
theorem slOk_8_3 : slOk 8 3 = true := by kernel_rfl
theorem slOk_8_4 : slOk 8 4 = true := by kernel_rfl
theorem slOk_8_5 : slOk 8 5 = true := by kernel_rfl
theorem slOk_8_6 : slOk 8 6 = true := by kernel_rfl
theorem slOk_8_7 : slOk 8 7 = true := by kernel_rfl
theorem slOk_8_8 : slOk 8 8 = true := by kernel_rfl
theorem slOk_8_9 : slOk 8 9 = true := by kernel_rfl
theorem slOk_8_10 : slOk 8 10 = true := by kernel_rfl
theorem slOk_8_11 : slOk 8 11 = true := by kernel_rfl
theorem slOk_8_12 : slOk 8 12 = true := by kernel_rfl
theorem slOk_8_13 : slOk 8 13 = true := by kernel_rfl
theorem slOk_8_14 : slOk 8 14 = true := by kernel_rfl
theorem slOk_8_15 : slOk 8 15 = true := by kernel_rfl
theorem slOk_8_16 : slOk 8 16 = true := by kernel_rfl
theorem slOk_8_17 : slOk 8 17 = true := by kernel_rfl
theorem slOk_8_18 : slOk 8 18 = true := by kernel_rfl
theorem slOk_8_19 : slOk 8 19 = true := by kernel_rfl
theorem slOk_8_20 : slOk 8 20 = true := by kernel_rfl

end Go.Proofs.YteajjfhehicfgaaGreatDoor
