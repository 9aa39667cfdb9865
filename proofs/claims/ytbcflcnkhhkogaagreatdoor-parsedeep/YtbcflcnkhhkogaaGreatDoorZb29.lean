/- An expression's text: what parse.Expr answers at any text. -/
import Derived.Test.YtbcflcnkhhkogaaGreatDoorZb28
set_option linter.unusedSimpArgs false
set_option linter.unusedVariables false
set_option maxRecDepth 10000

namespace Go.Proofs.YtbcflcnkhhkogaaGreatDoor
open Go.RowKit

/-- A reader at its end: what is left is a fault. -/
def finP (len : Nat) (st : PS) : PS := if st.ts.length = 0 then st else st.fail len 10
/-- The expression that a text tells. -/
def xrP (s : ByteArray) (f : Nat) : PN × PS := ((exP s.size f (begP s)).1, finP s.size (exP s.size f (begP s)).2)

set_option maxHeartbeats 1000000 in
theorem finish_any (len g : Nat) (st : PS) (w : World) (hS : St w g len st) :
    Calls Tryz.prog 23 #[.pointer (some ⟨g, 0, none⟩)] w fun e w' => e = .returned (.tuple #[]) ∧ St w' g len (finP len st) ∧ Gr g w w' := by
  have HE := hide (ended_any len g st w hS)
  have HF := hide (fail_any len g st 10 w hS)
  have HS := hide hS
  by_cases h : st.ts.length = 0
  · have hP : finP len st = st := by unfold finP; rw [if_pos h]
    have HP := hide hP
    have hb : ((st.ts.length : Int) == 0) = true := by simp [h]
    rw [hb] at HE
    clear hS hP h hb HF
    go_enter Tryz.func23, Tryz.ntmps23
    go_wp2_with (go_at_call 43; refine Calls.mono (unhide HE) ?_; rintro e w1 ⟨rfl, hw⟩; obtain rfl := hw.symm)
    go_end0
    rw [unhide HP]
    exact ⟨rfl, unhide HS, Gr.refl _ _⟩
  · have hP : finP len st = st.fail len 10 := by unfold finP; rw [if_neg h]
    have HP := hide hP
    have hb : ((st.ts.length : Int) == 0) = false := by rw [beq_eq_false_iff_ne]; omega
    rw [hb] at HE
    clear hS hP h hb
    go_enter Tryz.func23, Tryz.ntmps23
    go_wp2_with (first
      | (go_at_call 43; refine Calls.mono (unhide HE) ?_; rintro e w1 ⟨rfl, hw⟩; obtain rfl := hw.symm)
      | (go_at_call 44; refine Calls.mono (unhide HF) ?_; rintro e w1 ⟨rfl, a, b⟩; have A := hide a; have B := hide b; clear a b))
    go_end0
    rw [unhide HP]
    exact ⟨rfl, unhide A, unhide B⟩

end Go.Proofs.YtbcflcnkhhkogaaGreatDoor
