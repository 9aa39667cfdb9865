/- The codes of StackTicks: whether they are ticked. -/
import Derived.Test.YtggpehmljpanjabStkAw
set_option linter.unusedSimpArgs false
set_option linter.unusedVariables false
set_option maxRecDepth 10000
namespace Go.Proofs.Ytggpehmljpanjab
open Go.RowKit

/-- So many steps, a tick at one place. -/
def tkL (p : Nat) : Nat → List KI
  | 0 => []
  | i + 1 => tkL p i ++ (if i = p then [⟨12, 1, 0⟩] else [⟨1, 0, 0⟩, ⟨4, 0, 0⟩])
/-- A call. -/
def tkD (c : Nat) : List KI := if c = 1 then [⟨12, 2, 0⟩, ⟨9, 0, 0⟩, ⟨4, 0, 0⟩] else if c = 2 then [⟨1, 0, 0⟩, ⟨4, 0, 0⟩, ⟨9, 0, 0⟩, ⟨4, 0, 0⟩] else []
def tkC (n p c : Nat) : List KI := tkL p n ++ tkD c ++ [⟨7, 0, 0⟩]
def tkE (n p c : Nat) : Int := if (n ≤ p ∧ ¬ c = 1) ∨ c = 2 then 14 else 0
def tkOk (n p c : Nat) : Bool :=
  match kHgt [oneF (tkC n p c)] 0 300 with
  | some q => decide (q.2 = tkE n p c)
  | none => false
def tkRow (a k : Nat) : Bool := (List.range k).all (fun i => (List.range (a + i + 1)).all (fun p => (List.range 3).all (fun c => tkOk (a + i) p c)))
theorem tk_1 : tkRow 1 7 = true := by decide +kernel
theorem tk_2 : tkRow 8 3 = true := by decide +kernel
theorem tk_3 : tkRow 11 2 = true := by decide +kernel
theorem tk_4 : tkRow 13 2 = true := by decide +kernel
theorem tk_5 : tkRow 15 1 = true := by decide +kernel
theorem tk_6 : tkRow 16 1 = true := by decide +kernel
theorem tkRow_at {a k : Nat} (h : tkRow a k = true) {n p c : Nat} (h1 : a ≤ n) (h2 : n < a + k) (h3 : p ≤ n) (h4 : c < 3) : tkOk n p c = true := by
  unfold tkRow at h
  rw [List.all_eq_true] at h
  have h5 := h (n - a) (List.mem_range.2 (by omega))
  rw [List.all_eq_true] at h5
  have h6 := h5 p (List.mem_range.2 (by omega))
  rw [List.all_eq_true] at h6
  have h7 := h6 c (List.mem_range.2 h4)
  rw [show a + (n - a) = n by omega] at h7
  exact h7
theorem tkOk_low (n p c : Nat) (h1 : 1 ≤ n) (h2 : n ≤ 16) (h3 : p ≤ n) (h4 : c < 3) : tkOk n p c = true := by
  rcases (show n < 8 ∨ (8 ≤ n ∧ n < 11) ∨ (11 ≤ n ∧ n < 13) ∨ (13 ≤ n ∧ n < 15) ∨ n = 15 ∨ n = 16 by omega) with h | h | h | h | h | h
  · exact tkRow_at tk_1 h1 (by omega) h3 h4
  · exact tkRow_at tk_2 h.1 (by omega) h3 h4
  · exact tkRow_at tk_3 h.1 (by omega) h3 h4
  · exact tkRow_at tk_4 h.1 (by omega) h3 h4
  · exact tkRow_at tk_5 (by omega) (by omega) h3 h4
  · exact tkRow_at tk_6 (by omega) (by omega) h3 h4
theorem tkL_high (p q : Nat) : ∀ n, n ≤ p → n ≤ q → tkL p n = tkL q n := by
  intro n
  induction n with
  | zero => intro _ _; rfl
  | succ n ih => intro h1 h2; rw [tkL, tkL, ih (by omega) (by omega), if_neg (by omega), if_neg (by omega)]
theorem tkOk_all (n p c : Nat) (h1 : 1 ≤ n) (h2 : n ≤ 16) (h4 : c < 4) : tkOk n p c = true := by
  have step : ∀ c, c < 3 → tkOk n p c = true := fun c h4 => by
    by_cases h3 : p ≤ n
    · exact tkOk_low n p c h1 h2 h3 h4
    · have h := tkOk_low n n c h1 h2 (Nat.le_refl _) h4
      have e : tkE n p c = tkE n n c := by unfold tkE; simp [show n ≤ p by omega]
      unfold tkOk tkC at h ⊢
      rw [tkL_high p n n (by omega) (Nat.le_refl _), e]
      exact h
  by_cases hc : c = 3
  · subst hc
    have h := step 0 (by omega)
    have e1 : tkD 3 = tkD 0 := by simp [tkD]
    have e2 : tkE n p 3 = tkE n p 0 := by simp [tkE]
    unfold tkOk tkC at h ⊢
    rw [e1, e2]
    exact h
  · exact step c (by omega)
theorem tkOk_gives {n p c : Nat} (h : tkOk n p c = true) : ∃ hs, kHgt [oneF (tkC n p c)] 0 300 = some (hs, tkE n p c) := by
  unfold tkOk at h
  cases hq : kHgt [oneF (tkC n p c)] 0 300 with
  | none => rw [hq] at h; cases h
  | some q =>
  rw [hq] at h
  simp only [decide_eq_true_eq] at h
  exact ⟨q.1, by rw [← h]⟩
theorem tkL_len (p : Nat) : ∀ n, (tkL p n).length ≤ 2 * n := by
  intro n
  induction n with
  | zero => simp [tkL]
  | succ n ih => rw [tkL, List.length_append]; split <;> simp <;> omega
theorem tkL_mem (p : Nat) : ∀ n, ∀ i ∈ tkL p n, i = ⟨12, 1, 0⟩ ∨ i = ⟨1, 0, 0⟩ ∨ i = ⟨4, 0, 0⟩ := by
  intro n
  induction n with
  | zero => simp [tkL]
  | succ n ih =>
    intro i hi
    rw [tkL, List.mem_append] at hi
    rcases hi with hi | hi
    · exact ih i hi
    · split at hi
      · simp at hi; exact Or.inl hi
      · simp at hi; exact Or.inr hi
theorem tkC_b (n p c : Nat) : KBd (tkC n p c) := by
  intro i hi
  simp only [tkC, List.mem_append] at hi
  rcases hi with (hi | hi) | hi
  · rcases tkL_mem p n i hi with rfl | rfl | rfl <;> decide
  · unfold tkD at hi
    split at hi
    · simp at hi; rcases hi with rfl | rfl | rfl <;> decide
    · split at hi
      · simp at hi; rcases hi with rfl | rfl | rfl | rfl <;> decide
      · simp at hi
  · simp at hi; subst hi; decide

end Go.Proofs.Ytggpehmljpanjab
