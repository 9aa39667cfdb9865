/- The texts with 4 parameters, read by the kernel. -/
import Derived.Test.YteajjfhehicfgaaGreatDoorZb16
set_option linter.unusedSimpArgs false
set_option linter.unusedVariables false
set_option maxRecDepth 10000

namespace Go.Proofs.YteajjfhehicfgaaGreatDoor

theorem slOk_4_0 : slOk 4 0 = true := by kernel_rfl
theorem slOk_4_1 : slOk 4 1 = true := by kernel_rfl
theorem slOk_4_2 : slOk 4 2 = true := by kernel_rfl
theorem slOk_4_3 : slOk 4 3 = true := by kernel_rfl
theorem slOk_4_4 : slOk 4 4 = true := by kernel_rfl
theorem slOk_4_5 : slOk 4 5 = true := by kernel_rfl
theorem slOk_4_6 : slOk 4 6 = true := by kernel_rfl
theorem slOk_4_7 : slOk 4 7 = true := by kernel_rfl
theorem slOk_4_8 : slOk 4 8 = true := by kernel_rfl
theorem slOk_4_9 : slOk 4 9 = true := by kernel_rfl
theorem slOk_4_10 : slOk 4 10 = true := by kernel_rfl
theorem slOk_4_11 : slOk 4 11 = true := by kernel_rfl
theorem slOk_4_12 : slOk 4 12 = true := by kernel_rfl
theorem slOk_4_13 : slOk 4 13 = true := by kernel_rfl
theorem slOk_4_14 : slOk 4 14 = true := by kernel_rfl
theorem slOk_4_15 : slOk 4 15 = true := by kernel_rfl
theorem slOk_4_16 : slOk 4 16 = true := by kernel_rfl
theorem slOk_4_17 : slOk 4 17 = true := by kernel_rfl
theorem slOk_4_18 : slOk 4 18 = true := by kernel_rfl
theorem slOk_4_19 : slOk 4 19 = true := by kernel_rfl
theorem slOk_4_20 : slOk 4 20 = true := by kernel_rfl

end Go.Proofs.YteajjfhehicfgaaGreatDoor
