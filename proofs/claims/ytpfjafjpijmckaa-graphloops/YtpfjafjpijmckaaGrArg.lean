/- Rows of numbers and truths, and lists of rows, that came in as an argument, opened. -/
import Derived.Test.YtpfjafjpijmckaaGrCz
import Derived.Deep.Slices
import Derived.ChangeSame
set_option linter.unusedSimpArgs false
set_option linter.unusedVariables false
set_option maxRecDepth 10000
namespace Go.Proofs.Ytpfjafjpijmckaa
open Go.RowKit Go.ChangeShapes Go.WideShapes Go.Deep

theorem cellsInt : Try.prog.cellsOf 3 = 1 := by kernel_rfl
theorem cellsBool : Try.prog.cellsOf 4 = 1 := by kernel_rfl
theorem cellsSl : Try.prog.cellsOf 22 = 1 := by kernel_rfl

section
variable {H : Type} {enc : TypeId × Value → H} {w : World} {base : Nat} {spare : Nat → Bool} {held : Bool}
theorem open_intsV {fuel : Nat} {v : Value} {x : DataW H × List MemPlace} (h : DataW.trod enc Try.prog w base spare held fuel 22 [v] = some x) : ∃ (a : Option Addr) (l : List Int) (cap : Nat), v = .slice a l.length cap ∧ RepI w (In w) a l ∧ l.length ≤ maxLen := by
  rcases open_slice1 Try.underlying22 cellsInt h with ⟨hcs, _⟩ | ⟨b, len, c, m, n, V, D, Pl, hcs, hb, hl, hm, hmm, _, hx⟩
  · simp at hcs
    subst hcs
    exact ⟨none, [], 0, rfl, Or.inl rfl, by simp⟩
  · simp at hcs
    subst hcs
    have hlm : len ≤ m := by rw [hmm]; split <;> omega
    have each : ∀ i, i < m → ∃ q : Int, w.cell? (b.add i) = some (.int .i64 q) := by
      intro i hi
      obtain ⟨h1, h2⟩ := hx i hi
      obtain ⟨z0, e0, _, _⟩ := DataW.trod_int Try.underlying3 h2
      simp at e0
      exact ⟨z0, by rw [h1, e0]⟩
    obtain ⟨q, hq⟩ := choose_lt each
    refine ⟨some b, (List.range len).map q, c, by simp, ?_, by simp; omega⟩
    by_cases h0 : len = 0
    · subst h0; exact Or.inl rfl
    · obtain ⟨bb, off, spot⟩ := b
      have hsp : spot = none := by simpa [Addr.add] using World.cell?_spot (hq 0 (by omega))
      subst hsp
      have hin : bb < w.heap.size := by
        have := World.block_lt_of_cell? w _ (hq 0 (by omega))
        simpa [Addr.add] using this
      refine Or.inr ⟨bb, off, rfl, hin, fun j i hi => ?_⟩
      have hj : j < len := by
        have := (List.getElem?_eq_some_iff.1 hi).1
        simpa using this
      have hqi : i = q j := by
        rw [List.getElem?_map, List.getElem?_range hj] at hi
        simpa using hi.symm
      subst hqi
      have a0 := hq j (by omega)
      rw [add_plain] at a0
      exact a0
theorem open_bools {fuel : Nat} {v : Value} {x : DataW H × List MemPlace} (h : DataW.trod enc Try.prog w base spare held fuel 35 [v] = some x) : ∃ (a : Option Addr) (l : List Bool) (cap : Nat), v = .slice a l.length cap ∧ RepB w (In w) a l ∧ l.length ≤ maxLen := by
  rcases open_slice1 Try.underlying35 cellsBool h with ⟨hcs, _⟩ | ⟨b, len, c, m, n, V, D, Pl, hcs, hb, hl, hm, hmm, _, hx⟩
  · simp at hcs
    subst hcs
    exact ⟨none, [], 0, rfl, Or.inl rfl, by simp⟩
  · simp at hcs
    subst hcs
    have hlm : len ≤ m := by rw [hmm]; split <;> omega
    have each : ∀ i, i < m → ∃ q : Bool, w.cell? (b.add i) = some (.bool q) := by
      intro i hi
      obtain ⟨h1, h2⟩ := hx i hi
      obtain ⟨z0, e0, _⟩ := DataW.trod_bool Try.underlying4 h2
      simp at e0
      exact ⟨z0, by rw [h1, e0]⟩
    obtain ⟨q, hq⟩ := choose_lt each
    refine ⟨some b, (List.range len).map q, c, by simp, ?_, by simp; omega⟩
    by_cases h0 : len = 0
    · subst h0; exact Or.inl rfl
    · obtain ⟨bb, off, spot⟩ := b
      have hsp : spot = none := by simpa [Addr.add] using World.cell?_spot (hq 0 (by omega))
      subst hsp
      have hin : bb < w.heap.size := by
        have := World.block_lt_of_cell? w _ (hq 0 (by omega))
        simpa [Addr.add] using this
      refine Or.inr ⟨bb, off, rfl, hin, fun j i hi => ?_⟩
      have hj : j < len := by
        have := (List.getElem?_eq_some_iff.1 hi).1
        simpa using this
      have hqi : i = q j := by
        rw [List.getElem?_map, List.getElem?_range hj] at hi
        simpa using hi.symm
      subst hqi
      have a0 := hq j (by omega)
      rw [add_plain] at a0
      exact a0
theorem open_graph {fuel : Nat} {v : Value} {x : DataW H × List MemPlace} (h : DataW.trod enc Try.prog w base spare held fuel 23 [v] = some x) : ∃ (a : Option Addr) (g : List (List Int)) (cap : Nat), v = .slice a g.length cap ∧ RepG w (In w) a g ∧ g.length ≤ maxLen ∧ ∀ l ∈ g, l.length ≤ maxLen := by
  rcases open_slice1 Try.underlying23 cellsSl h with ⟨hcs, _⟩ | ⟨b, len, c, m, n, V, D, Pl, hcs, hb, hl, hm, hmm, _, hx⟩
  · simp at hcs
    subst hcs
    exact ⟨none, [], 0, rfl, Or.inl rfl, by simp, fun l hl => by cases hl⟩
  · simp at hcs
    subst hcs
    have hlm : len ≤ m := by rw [hmm]; split <;> omega
    have each : ∀ i, i < m → ∃ q : List Int, ∃ ia ic, w.cell? (b.add i) = some (.slice ia q.length ic) ∧ RepI w (In w) ia q ∧ q.length ≤ maxLen := by
      intro i hi
      obtain ⟨h1, h2⟩ := hx i hi
      obtain ⟨ia, q, ic, e0, e1, e2⟩ := open_intsV h2
      exact ⟨q, ia, ic, by rw [h1, e0], e1, e2⟩
    obtain ⟨q, hq⟩ := choose_lt each
    refine ⟨some b, (List.range len).map q, c, by simp, ?_, by simp; omega, fun l hl => ?_⟩
    · by_cases h0 : len = 0
      · subst h0; exact Or.inl rfl
      · obtain ⟨bb, off, spot⟩ := b
        obtain ⟨ia0, ic0, hc0, _⟩ := hq 0 (by omega)
        have hsp : spot = none := by simpa [Addr.add] using World.cell?_spot hc0
        subst hsp
        have hin : bb < w.heap.size := by
          have := World.block_lt_of_cell? w _ hc0
          simpa [Addr.add] using this
        refine Or.inr ⟨bb, off, rfl, hin, fun j i hi => ?_⟩
        have hj : j < len := by
          have := (List.getElem?_eq_some_iff.1 hi).1
          simpa using this
        have hqi : i = q j := by
          rw [List.getElem?_map, List.getElem?_range hj] at hi
          simpa using hi.symm
        subst hqi
        obtain ⟨ia, ic, a0, a1, _⟩ := hq j (by omega)
        rw [add_plain] at a0
        exact ⟨ia, ic, a0, a1⟩
    · obtain ⟨i, hi, rfl⟩ := List.mem_map.1 hl
      obtain ⟨ia, ic, _, _, a2⟩ := hq i (by have := List.mem_range.1 hi; omega)
      exact a2
end

end Go.Proofs.Ytpfjafjpijmckaa
