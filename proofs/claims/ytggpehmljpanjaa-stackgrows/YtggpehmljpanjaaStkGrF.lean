/- The codes of StackGrows: what their heights and registers are. -/
import Derived.Test.YtggpehmljpanjaaStkAw
set_option linter.unusedSimpArgs false
set_option linter.unusedVariables false
set_option maxRecDepth 10000
namespace Go.Proofs.Ytggpehmljpanjaa
open Go.RowKit

def grC (n less : Nat) : List KI := List.replicate n ⟨1, 0, 0⟩ ++ [⟨8, (n + 1 + less : Nat), 0⟩] ++ List.replicate less ⟨4, 0, 0⟩ ++ [⟨1, 0, 0⟩, ⟨10, 0, 0⟩]
def grOk (n less : Nat) : Bool :=
  match kHgt [oneF (grC n less)] 0 300, kVirt [oneF (grC n less)] 0 300 with
  | some q, some v => if 64 < n ∨ 0 < less then (q.1.isEmpty && decide (q.2 = 13) && decide (v.1 = 0) && decide (v.2 = 13))
      else (decide (q.2 = 0) && decide (v.2 = 0) && decide (v.1 = n) && decide (q.1.length = n + 3) && decide (q.1[n]? = some (n : Int)) && decide (q.1[n + 1]? = some ((n : Int) - 1)))
  | _, _ => false

def grRow (a k : Nat) : Bool := (List.range k).all (fun i => (List.range 3).all (fun l => grOk (a + i) l))
theorem gr_1 : grRow 1 24 = true := by decide +kernel
theorem gr_2 : grRow 25 16 = true := by decide +kernel
theorem gr_3 : grRow 41 12 = true := by decide +kernel
theorem gr_4 : grRow 53 12 = true := by decide +kernel
theorem gr_5 : grRow 65 16 = true := by decide +kernel
theorem grRow_at {a k : Nat} (h : grRow a k = true) {n l : Nat} (h1 : a ≤ n) (h2 : n < a + k) (h3 : l < 3) : grOk n l = true := by
  unfold grRow at h
  rw [List.all_eq_true] at h
  have := h (n - a) (List.mem_range.2 (by omega))
  rw [List.all_eq_true] at this
  have := this l (List.mem_range.2 h3)
  rw [show a + (n - a) = n by omega] at this
  exact this
theorem grOk_all (n l : Nat) (h1 : 1 ≤ n) (h2 : n ≤ 80) (h3 : l < 3) : grOk n l = true := by
  rcases (show n < 25 ∨ (25 ≤ n ∧ n < 41) ∨ (41 ≤ n ∧ n < 53) ∨ (53 ≤ n ∧ n < 65) ∨ 65 ≤ n by omega) with h | h | h | h | h
  · exact grRow_at gr_1 h1 (by omega) h3
  · exact grRow_at gr_2 h.1 (by omega) h3
  · exact grRow_at gr_3 h.1 (by omega) h3
  · exact grRow_at gr_4 h.1 (by omega) h3
  · exact grRow_at gr_5 h (by omega) h3

/-- What is told of each. -/
theorem grOk_gives {n l : Nat} (h : grOk n l = true) : ∃ q v, kHgt [oneF (grC n l)] 0 300 = some q ∧ kVirt [oneF (grC n l)] 0 300 = some v ∧
    ((64 < n ∨ 0 < l) → q = ([], 13) ∧ v = (0, 13)) ∧ (¬ (64 < n ∨ 0 < l) → q.2 = 0 ∧ v = ((n : Int), 0) ∧ q.1.length = n + 3 ∧ q.1[n]? = some (n : Int) ∧ q.1[n + 1]? = some ((n : Int) - 1)) := by
  unfold grOk at h
  cases hq : kHgt [oneF (grC n l)] 0 300 with
  | none => rw [hq] at h; cases h
  | some q =>
  cases hv : kVirt [oneF (grC n l)] 0 300 with
  | none => rw [hq, hv] at h; cases h
  | some v =>
  rw [hq, hv] at h
  simp only at h
  refine ⟨q, v, rfl, rfl, fun hc => ?_, fun hc => ?_⟩
  · rw [if_pos hc] at h
    simp only [Bool.and_eq_true, decide_eq_true_eq, List.isEmpty_iff] at h
    obtain ⟨⟨⟨a, b⟩, c⟩, d⟩ := h
    exact ⟨Prod.ext a b, Prod.ext c d⟩
  · rw [if_neg hc] at h
    simp only [Bool.and_eq_true, decide_eq_true_eq] at h
    obtain ⟨⟨⟨⟨⟨a, b⟩, c⟩, d⟩, e⟩, f⟩ := h
    exact ⟨a, Prod.ext c b, d, e, f⟩

theorem grC_len (n l : Nat) : (grC n l).length = n + l + 3 := by simp [grC]; omega
theorem grC_b (n l : Nat) (hn : n ≤ 80) (hl : l < 3) : KBd (grC n l) := by
  intro i hi
  simp [grC] at hi
  rcases hi with ⟨_, rfl⟩ | rfl | ⟨_, rfl⟩ | rfl | rfl
  all_goals simp only; omega

end Go.Proofs.Ytggpehmljpanjaa
