/- The texts with 7 parameters, read by the kernel. -/
import Derived.Test.YteajjfhehicfgaaGreatDoorZb16
set_option linter.unusedSimpArgs false
set_option linter.unusedVariables false
set_option maxRecDepth 10000

namespace Go.Proofs.YteajjfhehicfgaaGreatDoor

theorem slOk_7_0 : slOk 7 0 = true := by kernel_rfl
theorem slOk_7_1 : slOk 7 1 = true := by kernel_rfl
theorem slOk_7_2 : slOk 7 2 = true := by kernel_rfl
theorem slOk_7_3 : slOk 7 3 = true := by kernel_rfl
theorem slOk_7_4 : slOk 7 4 = true := by kernel_rfl
theorem slOk_7_5 : slOk 7 5 = true := by kernel_rfl
theorem slOk_7_6 : slOk 7 6 = true := by kernel_rfl
theorem slOk_7_7 : slOk 7 7 = true := by kernel_rfl
theorem slOk_7_8 : slOk 7 8 = true := by kernel_rfl
theorem slOk_7_9 : slOk 7 9 = true := by kernel_rfl
theorem slOk_7_10 : slOk 7 10 = true := by kernel_rfl
theorem slOk_7_11 : slOk 7 11 = true := by kernel_rfl
theorem slOk_7_12 : slOk 7 12 = true := by kernel_rfl
theorem slOk_7_13 : slOk 7 13 = true := by kernel_rfl
theorem slOk_7_14 : slOk 7 14 = true := by kernel_rfl
theorem slOk_7_15 : slOk 7 15 = true := by kernel_rfl
theorem slOk_7_16 : slOk 7 16 = true := by kernel_rfl
theorem slOk_7_17 : slOk 7 17 = true := by kernel_rfl
theorem slOk_7_18 : slOk 7 18 = true := by kernel_rfl
theorem slOk_7_19 : slOk 7 19 = true := by kernel_rfl
theorem slOk_7_20 : slOk 7 20 = true := by kernel_rfl

end Go.Proofs.YteajjfhehicfgaaGreatDoor
