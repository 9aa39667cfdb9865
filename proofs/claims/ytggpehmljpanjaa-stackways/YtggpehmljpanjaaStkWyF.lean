/- A code that came in as an argument, opened. -/
import Derived.Test.YtggpehmljpanjaaStkRf
import Derived.Deep.Slices
import Derived.ChangeSame
set_option linter.unusedSimpArgs false
set_option linter.unusedVariables false
set_option maxRecDepth 10000
namespace Go.Proofs.Ytggpehmljpanjaa
open Go.RowKit Go.ChangeShapes Go.WideShapes Go.Deep

theorem cellsS : Try.prog.cellsOf 23 = 3 := by kernel_rfl
theorem cellsI : Try.prog.cellsOf 3 = 1 := by kernel_rfl

theorem open_code {H : Type} {enc : TypeId × Value → H} {w : World} {base : Nat} {spare : Nat → Bool} {held : Bool} {fuel : Nat} {a : Option Addr} {len cap : Nat} {x : DataW H × List MemPlace}
    (h : DataW.trod enc Try.prog w base spare held fuel 24 [.slice a len cap] = some x) : ∃ l : List KI, l.length = len ∧ RepC w (In w) a l ∧ len ≤ 9223372036854775807 := by
  rcases open_slice Try.underlying24 h with ⟨hcs, _⟩ | ⟨b, l, c, m, n, D, Pl, hcs, hb, hl, hm, hmm, _, hx⟩
  · simp at hcs
    obtain ⟨rfl, rfl, rfl⟩ := hcs
    exact ⟨[], rfl, Or.inl rfl, by omega⟩
  · simp at hcs
    obtain ⟨rfl, rfl, rfl⟩ := hcs
    have hlm : len ≤ m := by rw [hmm]; split <;> omega
    have hmx : len ≤ 9223372036854775807 := by unfold maxLen at hm; omega
    have each : ∀ i, i < m → ∃ q : KI, w.cell? (b.add (i * 3)) = some (.int .i64 q.op) ∧ w.cell? (b.add (i * 3 + 1)) = some (.int .i64 q.a) ∧ w.cell? (b.add (i * 3 + 2)) = some (.int .i64 q.b) := by
      intro i hi
      obtain ⟨cs', h1, h2⟩ := hx i hi
      rw [cellsS] at h1
      obtain ⟨_, hlen, hcell⟩ := World.cells?_some h1
      obtain ⟨xs, k, hk, hxy, _, hxl, hf⟩ := DataW.trod_struct Try.underlying23 h2
      match xs, hxl, cs', hlen with
      | [y0, y1, y2], _, [v0, v1, v2], _ =>
        have g0 := hf 0 _ rfl
        have g1 := hf 1 _ rfl
        have g2 := hf 2 _ rfl
        simp [cellsI] at g0 g1 g2
        obtain ⟨z0, e0, _, _⟩ := DataW.trod_int Try.underlying3 g0
        obtain ⟨z1, e1, _, _⟩ := DataW.trod_int Try.underlying3 g1
        obtain ⟨z2, e2, _, _⟩ := DataW.trod_int Try.underlying3 g2
        simp at e0 e1 e2
        subst e0 e1 e2
        have c0 := hcell 0 (by omega)
        have c1 := hcell 1 (by omega)
        have c2 := hcell 2 (by omega)
        rw [add_add] at c0 c1 c2
        exact ⟨⟨z0, z1, z2⟩, by simpa using c0, by simpa using c1, by simpa using c2⟩
    have : Inhabited KI := ⟨⟨0, 0, 0⟩⟩
    obtain ⟨q, hq⟩ := choose_lt each
    refine ⟨(List.range len).map q, by simp, ?_, hmx⟩
    by_cases h0 : len = 0
    · subst h0; exact Or.inl rfl
    · obtain ⟨bb, off, spot⟩ := b
      have hsp : spot = none := by simpa [Addr.add] using World.cell?_spot (hq 0 (by omega)).1
      subst hsp
      have hin : bb < w.heap.size := by
        have := World.block_lt_of_cell? w _ (hq 0 (by omega)).1
        simpa [Addr.add] using this
      refine Or.inr ⟨bb, off, rfl, hin, fun j i hi => ?_⟩
      have hj : j < len := by
        have := (List.getElem?_eq_some_iff.1 hi).1
        simpa using this
      have hqi : i = q j := by
        rw [List.getElem?_map, List.getElem?_range hj] at hi
        simpa using hi.symm
      subst hqi
      obtain ⟨a0, a1, a2⟩ := hq j (by omega)
      rw [add_plain] at a0 a1 a2
      exact ⟨a0, by simpa [Nat.add_assoc] using a1, by simpa [Nat.add_assoc] using a2⟩

end Go.Proofs.Ytggpehmljpanjaa
