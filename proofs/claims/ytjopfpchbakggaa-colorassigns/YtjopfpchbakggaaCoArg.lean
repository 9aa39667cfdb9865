/- A row of records of three numbers that came in as an argument, opened. -/
import Derived.Test.YtjopfpchbakggaaCoW
import Derived.Deep.Slices
import Derived.Deep.Strs
import Derived.ChangeSame
set_option linter.unusedSimpArgs false
set_option linter.unusedVariables false
set_option maxRecDepth 10000
namespace Go.Proofs.Ytjopfpchbakggaa
open Go.RowKit Go.ChangeShapes Go.WideShapes Go.Deep

theorem cellsCo : Try.prog.cellsOf 50 = 3 := by kernel_rfl

theorem cellsCoI : Try.prog.cellsOf 3 = 1 := by kernel_rfl
theorem tpI_len : ∀ T : List T3, (tpI T).length = T.length * 3
  | [] => rfl
  | t :: T => by
    rw [tpI_cons, List.length_cons, List.length_cons, List.length_cons, tpI_len T, List.length_cons]
    omega

theorem open_rows {H : Type} {enc : TypeId × Value → H} {w : World} {base : Nat} {spare : Nat → Bool} {held : Bool} {fuel : Nat} {v : Value} {x : DataW H × List MemPlace}
    (h : DataW.trod enc Try.prog w base spare held fuel 32 [v] = some x) : ∃ (a : Option Addr) (l : List T3) (cap : Nat), v = .slice a l.length cap ∧ RepI w (In w) a (tpI l) ∧ l.length ≤ maxLen := by
  rcases open_slice Try.underlying32 h with ⟨hcs, _⟩ | ⟨b, len, c, m, n, D, Pl, hcs, hb, hl, hm, hmm, _, hx⟩
  · simp at hcs
    subst hcs
    exact ⟨none, [], 0, rfl, Or.inl rfl, by simp⟩
  · simp at hcs
    subst hcs
    have hlm : len ≤ m := by rw [hmm]; split <;> omega
    have each : ∀ i, i < m → ∃ t : T3, w.cell? (b.add (i * 3)) = some (.int .i64 t.1) ∧ w.cell? (b.add (i * 3 + 1)) = some (.int .i64 t.2.1) ∧ w.cell? (b.add (i * 3 + 2)) = some (.int .i64 t.2.2) := by
      intro i hi
      obtain ⟨cs', h1, h2⟩ := hx i hi
      rw [cellsCo] at h1
      obtain ⟨_, hlen, hcell⟩ := World.cells?_some h1
      match cs', hlen with
      | [v0, v1, v2], _ =>
        obtain ⟨y0, y1, y2, k, _, _, t0, t1, t2⟩ := trod_struct3 Try.underlying50 h2
        obtain ⟨z0, e0, _, _⟩ := DataW.trod_int Try.underlying3 t0
        obtain ⟨z1, e1, _, _⟩ := DataW.trod_int Try.underlying3 t1
        obtain ⟨z2, e2, _, _⟩ := DataW.trod_int Try.underlying3 t2
        rw [cellsCoI] at e0 e1 e2
        simp at e0 e1 e2
        subst e0 e1 e2
        have c0 := hcell 0 (by omega)
        have c1 := hcell 1 (by omega)
        have c2 := hcell 2 (by omega)
        rw [add_add] at c0 c1 c2
        exact ⟨(z0, z1, z2), by simpa using c0, by simpa using c1, by simpa using c2⟩
    obtain ⟨q, hq⟩ := choose_lt each
    refine ⟨some b, (List.range len).map q, c, by simp, ?_, by simp; omega⟩
    by_cases h0 : len = 0
    · subst h0; exact Or.inl rfl
    · obtain ⟨bb, off, spot⟩ := b
      have hsp : spot = none := by simpa [Addr.add] using World.cell?_spot (hq 0 (by omega)).1
      subst hsp
      have hin : bb < w.heap.size := by
        have := World.block_lt_of_cell? w _ (hq 0 (by omega)).1
        simpa [Addr.add] using this
      refine Or.inr ⟨bb, off, rfl, hin, fun j i hi => ?_⟩
      have hjl : j < len * 3 := by
        have h := (List.getElem?_eq_some_iff.1 hi).1
        rw [tpI_len] at h
        simpa using h
      have hj : j / 3 < len := by omega
      have hat : ((List.range len).map q)[j / 3]? = some (q (j / 3)) := by rw [List.getElem?_map, List.getElem?_range hj]; rfl
      obtain ⟨p0, p1, p2⟩ := tpI_at hat
      obtain ⟨a0, a1, a2⟩ := hq (j / 3) (by omega)
      rw [add_plain] at a0 a1 a2
      rcases (by omega : j = j / 3 * 3 ∨ j = j / 3 * 3 + 1 ∨ j = j / 3 * 3 + 2) with h | h | h
      · rw [h] at hi ⊢
        rw [p0] at hi
        injection hi with hi
        rw [← hi]
        exact a0
      · rw [h] at hi ⊢
        rw [p1] at hi
        injection hi with hi
        rw [← hi]
        exact a1
      · rw [h] at hi ⊢
        rw [p2] at hi
        injection hi with hi
        rw [← hi]
        exact a2

end Go.Proofs.Ytjopfpchbakggaa
