/- What the statements of the numbers do, out of the contracts: sums, products, soundness. -/
import Derived.Test.YtmcmfgihdhfcdaaDoorTurn
set_option linter.unusedSimpArgs false
namespace Go.Proofs.YtmcmfgihdhfcdaaDoor

theorem wd_of_wf {a : Int} (h : (Lit.int .u64 a).wf = true) : Wd a.toNat := by
  have h2 : a ≤ IntKind.max .u64 := by
    simp only [Lit.wf, decide_eq_true_eq, Bool.and_eq_true] at h
    exact h.2
  have e : IntKind.max .u64 = 18446744073709551615 := by rfl
  rw [e] at h2
  unfold Wd
  omega

theorem wd_of_int (n : Int) : Wd (floatOfInt .f64 n) := by
  have := floatOfInt_wf .f64 n
  simp only [Lit.wf, decide_eq_true_eq] at this
  exact this

theorem ok_of_clean (a b : Nat) : okB (cl1 a b) (cl2 a b) = true := by
  have key : ∀ x, fin x = true → (fin (part x) && !neg0 (part x)) = true := by
    intro x h
    rw [fin_part h, Bool.true_and]
    unfold neg0 part
    by_cases hn : nought x = true
    · rw [if_pos hn]; rfl
    · rw [if_neg hn]; simp only [Bool.not_eq_true] at hn; rw [hn]; rfl
  unfold okB cl1 cl2 fin2
  by_cases h : (fin a && fin b) = true
  · rw [if_pos h, if_pos h]
    rw [Bool.and_eq_true] at h
    rw [key a h.1, key b h.2]; rfl
  · rw [if_neg h, if_neg h]; rfl

end Go.Proofs.YtmcmfgihdhfcdaaDoor
