/- A row of as many -1 as there are points. -/
import Derived.Test.YtjopfpchbakggaaGrRow
import Derived.Laws.Bits64b
set_option linter.unusedSimpArgs false
set_option linter.unusedVariables false
set_option maxRecDepth 10000
namespace Go.Proofs.Ytjopfpchbakggaa
open Go.RowKit

/-- So many of n cells are laid. -/
def rp (n k : Nat) : List Value := List.replicate k (Value.int .i64 (-1)) ++ List.replicate (n - k) (Value.int .i64 0)
theorem rp_len (n k : Nat) (h : k ≤ n) : (rp n k).length = n := by unfold rp; rw [List.length_append, List.length_replicate, List.length_replicate]; omega
theorem rp_splice (n k m : Nat) (h : k + m ≤ n) : splice (rp n k) k (List.replicate m (Value.int .i64 (-1))) = rp n (k + m) := by
  unfold splice rp
  rw [List.take_append_of_le_length (by simp), List.take_of_length_le (by simp)]
  rw [List.length_replicate, List.drop_append, List.drop_of_length_le (by simp), List.nil_append, List.drop_replicate]
  rw [← List.append_assoc, List.replicate_append_replicate]
  simp
  omega
theorem rp_full (n : Nat) : rp n n = os (List.replicate n none) := by simp [rp, os, oI]
theorem rp_at (n k j : Nat) (h : j < k) : (rp n k)[j]? = some (.int .i64 (-1)) := by
  unfold rp
  rw [List.getElem?_append_left (by simpa using h)]
  simp [h]

/-- What a call that makes a row of points answers. -/
def MadeO (w : World) (l : List (Option Nat)) (e : Ending) (w' : World) : Prop := ∃ b, e = .returned (.slice (some ⟨b, 0, none⟩) l.length l.length) ∧ w.heap.size ≤ b ∧ Row w' b 3 (os l) ∧ Ext w w'

/-- Of a row that is made the value. -/
theorem oI_le (x : Option Nat) (n : Nat) (h : ∀ k, x = some k → k ≤ n) : -1 ≤ oI x ∧ oI x ≤ (n : Int) := by
  cases x with
  | none => show (-1 : Int) ≤ -1 ∧ (-1 : Int) ≤ (n : Int); omega
  | some k => have := h k rfl; show (-1 : Int) ≤ (k : Int) ∧ (k : Int) ≤ (n : Int); omega
theorem gPlc_len : ∀ (l : List Nat) (i : Nat) (d : List (Option Nat)), (gPlc l i d).length = d.length
  | [], _, _ => rfl
  | p :: r, i, d => by rw [gPlc, gPlc_len]; simp

end Go.Proofs.Ytjopfpchbakggaa
