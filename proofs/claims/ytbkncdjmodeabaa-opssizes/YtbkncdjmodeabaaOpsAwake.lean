/- The law's own test of what the document fixes of ops. -/
import Derived.Test.YtbkncdjmodeabaaOpsEx
set_option linter.unusedSimpArgs false
set_option maxRecDepth 10000
namespace Go.Proofs.Ytbkncdjmodeabaa
open Go.RowKit

theorem cxeq_ex : (FloatKind.f64.format.order 0 0 == some Ordering.eq) = true := by kernel_rfl
theorem cxeq_two : (FloatKind.f64.format.order 4611686018427387904 4611686018427387904 == some Ordering.eq) = true := by kernel_rfl

set_option maxHeartbeats 4000000 in
theorem oawake_any (w : World) : Calls Try.prog 7 #[] w fun e w' => e = .returned (.bool true) ∧ Ext w w' := by
  have h0 := cxeq_ex
  have h2 := cxeq_two
  go_enter Try.func7, Try.ntmps7
  go_wp2_with (first
    | (go_at_call 11; refine Calls.mono (arity_two _ _ (by decide) (by decide)) ?_; rintro e w8 ⟨rfl, rfl⟩)
    | (go_at_call 6; have U := unhide V5; refine Calls.mono (bin_get_ex _) ?_; rintro e w6 ⟨r6, rfl, hr6, hw6⟩; rw [tx, Rep] at hr6; obtain ⟨a6, c6, rfl, -, -⟩ := hr6; have q0 := (unhide F3).on ((unhide W5).trans hw6); have k0 := q0.c0; have k1 := q0.c2; have hlt : w3.heap.size < w6.heap.size := World.block_lt_of_cell? w6 ⟨w3.heap.size, 0, none⟩ q0.c0; have W6 := hide ((unhide V5).trans hw6); clear q0 hw6 U)
    | (go_at_call 6; refine Calls.mono (bin_mul_ex _) ?_; rintro e w3 ⟨r3, rfl, hr3, hw3⟩; rw [Rep] at hr3; obtain ⟨a3, c3, rfl, -, -⟩ := hr3; have W3 := hide ((unhide W2).trans hw3); clear hw3)
    | (go_at_call 5; have U := unhide V4; refine Calls.mono (rint_any _ _) ?_; rintro e w5 ⟨rfl, hw5⟩; have W5 := hide ((unhide W4).trans hw5); have V5 := hide ((unhide V4).trans hw5); clear hw5 U)
    | (go_at_call 5; refine Calls.mono (rint_any _ _) ?_; rintro e w1 ⟨rfl, hw1⟩; have W1 := hide hw1; clear hw1)
    | (go_at_call 15; refine Calls.mono (rcx_any _ _ _) ?_; rintro e w2 ⟨rfl, hw2⟩; have W2 := hide ((unhide W1).trans hw2); clear hw2)
    | (go_at_call 10; refine Calls.mono (rtext_any _ _) ?_; rintro e w4 ⟨rfl, hw4⟩; have W4 := hide hw4; have V4 := hide (((unhide W3).trans (Ext.alloc _ _)).trans hw4); have F3 := hide (Five.new w3 25 2 0 0 4611686018427387904 ⟨#[]⟩ a3 0 c3); clear hw4))
  go_ret
  exact ⟨rfl, (unhide W6).trans (Ext.alloc _ _)⟩

end Go.Proofs.Ytbkncdjmodeabaa
