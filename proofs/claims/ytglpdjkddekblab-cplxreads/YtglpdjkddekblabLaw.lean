/- What the statements of the numbers do, out of the contracts: sums, products, soundness. -/
import Derived.Test.YtglpdjkddekblabTurn
set_option linter.unusedSimpArgs false
namespace Go.Proofs.Ytglpdjkddekblab

theorem wd_of_wf {a : Int} (h : (Lit.int .u64 a).wf = true) : Wd a.toNat := by
  have h2 : a ≤ IntKind.max .u64 := by
    simp only [Lit.wf, decide_eq_true_eq, Bool.and_eq_true] at h
    exact h.2
  have e : IntKind.max .u64 = 18446744073709551615 := by rfl
  rw [e] at h2
  unfold Wd
  omega

theorem wd_of_int (n : Int) : Wd (floatOfInt .f64 n) := by
  have := floatOfInt_wf .f64 n
  simp only [Lit.wf, decide_eq_true_eq] at this
  exact this

set_option maxHeartbeats 400000 in
theorem awake_any (w : World) :
    Calls Try.prog 16 #[] w fun e w' => e = .returned (.bool true) ∧ ∃ n, w' = w.drewN n := by
  have h0 := wd_of_int 0
  have h1 := wd_of_int 1
  have W1 : Wd 13830554455654793216 := by unfold Wd; omega
  have W0 : Wd 0 := by unfold Wd; omega
  have e1 : o1 (mulP (cl1 (floatOfInt .f64 0) (floatOfInt .f64 1)) (cl2 (floatOfInt .f64 0) (floatOfInt .f64 1)) (cl1 (floatOfInt .f64 0) (floatOfInt .f64 1)) (cl2 (floatOfInt .f64 0) (floatOfInt .f64 1))) (mulQ (cl1 (floatOfInt .f64 0) (floatOfInt .f64 1)) (cl2 (floatOfInt .f64 0) (floatOfInt .f64 1)) (cl1 (floatOfInt .f64 0) (floatOfInt .f64 1)) (cl2 (floatOfInt .f64 0) (floatOfInt .f64 1))) = 13830554455654793216 := by kernel_rfl
  have e2 : o2 (mulP (cl1 (floatOfInt .f64 0) (floatOfInt .f64 1)) (cl2 (floatOfInt .f64 0) (floatOfInt .f64 1)) (cl1 (floatOfInt .f64 0) (floatOfInt .f64 1)) (cl2 (floatOfInt .f64 0) (floatOfInt .f64 1))) (mulQ (cl1 (floatOfInt .f64 0) (floatOfInt .f64 1)) (cl2 (floatOfInt .f64 0) (floatOfInt .f64 1)) (cl1 (floatOfInt .f64 0) (floatOfInt .f64 1)) (cl2 (floatOfInt .f64 0) (floatOfInt .f64 1))) = 0 := by kernel_rfl
  have e3 : oE (mulP (cl1 (floatOfInt .f64 0) (floatOfInt .f64 1)) (cl2 (floatOfInt .f64 0) (floatOfInt .f64 1)) (cl1 (floatOfInt .f64 0) (floatOfInt .f64 1)) (cl2 (floatOfInt .f64 0) (floatOfInt .f64 1))) (mulQ (cl1 (floatOfInt .f64 0) (floatOfInt .f64 1)) (cl2 (floatOfInt .f64 0) (floatOfInt .f64 1)) (cl1 (floatOfInt .f64 0) (floatOfInt .f64 1)) (cl2 (floatOfInt .f64 0) (floatOfInt .f64 1))) = 0 := by kernel_rfl
  have e4 : qE (cl1 (floatOfInt .f64 1) (floatOfInt .f64 0)) (cl2 (floatOfInt .f64 1) (floatOfInt .f64 0)) (cl1 (floatOfInt .f64 0) (floatOfInt .f64 0)) (cl2 (floatOfInt .f64 0) (floatOfInt .f64 0)) = 2 := by kernel_rfl
  have c1 : (FloatKind.f64.format.order 13830554455654793216 13830554455654793216 == some .eq) = true := by kernel_rfl
  have c2 : (FloatKind.f64.format.order 0 0 == some .eq) = true := by kernel_rfl
  have c3 : okB 13830554455654793216 0 = true := by kernel_rfl
  go_enter Try.func16, Try.ntmps16
  go_wp2_with (first | (go_at_call 18; refine (of_any _ _ _).mono ?_; rintro e w' ⟨rfl, rfl⟩) | (go_at_call 20; refine (mul_any _ _ _ _ _ ?_ ?_ ?_ ?_).mono ?_; assumption; assumption; assumption; assumption; rintro e w' ⟨rfl, n, rfl⟩) | (go_at_call 22; refine (div_any _ _ _ _ _ ?_ ?_ ?_ ?_).mono ?_; assumption; assumption; assumption; assumption; rintro e w' ⟨rfl, k, rfl⟩) | (go_at_call 24; refine (ok_any _ _ _ ?_ ?_).mono ?_; assumption; assumption; rintro e w' ⟨rfl, rfl⟩))
  go_ret
  exact ⟨rfl, _, rfl⟩

theorem ok_of_clean (a b : Nat) : okB (cl1 a b) (cl2 a b) = true := by
  have key : ∀ x, fin x = true → (fin (part x) && !neg0 (part x)) = true := by
    intro x h
    rw [fin_part h, Bool.true_and]
    unfold neg0 part
    by_cases hn : nought x = true
    · rw [if_pos hn]; rfl
    · rw [if_neg hn]; simp only [Bool.not_eq_true] at hn; rw [hn]; rfl
  unfold okB cl1 cl2 fin2
  by_cases h : (fin a && fin b) = true
  · rw [if_pos h, if_pos h]
    rw [Bool.and_eq_true] at h
    rw [key a h.1, key b h.2]; rfl
  · rw [if_neg h, if_neg h]; rfl

end Go.Proofs.Ytglpdjkddekblab
