/- The texts with 5 parameters, read by the kernel. -/
import Derived.Test.YteajjfhehicfgaaGreatDoorZb16
set_option linter.unusedSimpArgs false
set_option linter.unusedVariables false
set_option maxRecDepth 10000

namespace Go.Proofs.YteajjfhehicfgaaGreatDoor

theorem slOk_5_0 : slOk 5 0 = true := by kernel_rfl
theorem slOk_5_1 : slOk 5 1 = true := by kernel_rfl
theorem slOk_5_2 : slOk 5 2 = true := by kernel_rfl
theorem slOk_5_3 : slOk 5 3 = true := by kernel_rfl
theorem slOk_5_4 : slOk 5 4 = true := by kernel_rfl
theorem slOk_5_5 : slOk 5 5 = true := by kernel_rfl
theorem slOk_5_6 : slOk 5 6 = true := by kernel_rfl
theorem slOk_5_7 : slOk 5 7 = true := by kernel_rfl
theorem slOk_5_8 : slOk 5 8 = true := by kernel_rfl
theorem slOk_5_9 : slOk 5 9 = true := by kernel_rfl
theorem slOk_5_10 : slOk 5 10 = true := by kernel_rfl
theorem slOk_5_11 : slOk 5 11 = true := by kernel_rfl
theorem slOk_5_12 : slOk 5 12 = true := by kernel_rfl
theorem slOk_5_13 : slOk 5 13 = true := by kernel_rfl
theorem slOk_5_14 : slOk 5 14 = true := by kernel_rfl
theorem slOk_5_15 : slOk 5 15 = true := by kernel_rfl
theorem slOk_5_16 : slOk 5 16 = true := by kernel_rfl
theorem slOk_5_17 : slOk 5 17 = true := by kernel_rfl
theorem slOk_5_18 : slOk 5 18 = true := by kernel_rfl
theorem slOk_5_19 : slOk 5 19 = true := by kernel_rfl
theorem slOk_5_20 : slOk 5 20 = true := by kernel_rfl

end Go.Proofs.YteajjfhehicfgaaGreatDoor
