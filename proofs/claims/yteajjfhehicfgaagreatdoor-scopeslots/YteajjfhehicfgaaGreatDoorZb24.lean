/- The texts with 6 parameters, read by the kernel. -/
import Derived.Test.YteajjfhehicfgaaGreatDoorZb16
set_option linter.unusedSimpArgs false
set_option linter.unusedVariables false
set_option maxRecDepth 10000

namespace Go.Proofs.YteajjfhehicfgaaGreatDoor

theorem slOk_6_0 : slOk 6 0 = true := by kernel_rfl
theorem slOk_6_1 : slOk 6 1 = true := by kernel_rfl
theorem slOk_6_2 : slOk 6 2 = true := by kernel_rfl
theorem slOk_6_3 : slOk 6 3 = true := by kernel_rfl
theorem slOk_6_4 : slOk 6 4 = true := by kernel_rfl
theorem slOk_6_5 : slOk 6 5 = true := by kernel_rfl
theorem slOk_6_6 : slOk 6 6 = true := by kernel_rfl
theorem slOk_6_7 : slOk 6 7 = true := by kernel_rfl
theorem slOk_6_8 : slOk 6 8 = true := by kernel_rfl
theorem slOk_6_9 : slOk 6 9 = true := by kernel_rfl
theorem slOk_6_10 : slOk 6 10 = true := by kernel_rfl
theorem slOk_6_11 : slOk 6 11 = true := by kernel_rfl
theorem slOk_6_12 : slOk 6 12 = true := by kernel_rfl
theorem slOk_6_13 : slOk 6 13 = true := by kernel_rfl
theorem slOk_6_14 : slOk 6 14 = true := by kernel_rfl
theorem slOk_6_15 : slOk 6 15 = true := by kernel_rfl
theorem slOk_6_16 : slOk 6 16 = true := by kernel_rfl
theorem slOk_6_17 : slOk 6 17 = true := by kernel_rfl
theorem slOk_6_18 : slOk 6 18 = true := by kernel_rfl
theorem slOk_6_19 : slOk 6 19 = true := by kernel_rfl
theorem slOk_6_20 : slOk 6 20 = true := by kernel_rfl

end Go.Proofs.YteajjfhehicfgaaGreatDoor
