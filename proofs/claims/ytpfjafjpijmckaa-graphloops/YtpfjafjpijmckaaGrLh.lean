/- The document's Loops under way. -/
import Derived.Test.YtpfjafjpijmckaaGrLg
import Derived.Test.YtpfjafjpijmckaaGrL0
import Derived.Test.YtpfjafjpijmckaaGrGb
set_option linter.unusedSimpArgs false
set_option linter.unusedVariables false
set_option maxRecDepth 10000
namespace Go.Proofs.Ytpfjafjpijmckaa
open Go.RowKit

/-- Loops of the document, made one by one. -/
structure GbL (w0 w : World) (ls : List GL) (ads : List (Option Addr × Nat)) (la : Option Addr) (lc : Nat) : Prop where
  ext : Ext w0 w
  len : ads.length = ls.length
  oL : w.ownsRow w0.heap.size 44 3 (.slice la ls.length lc) ls.length (lpC ls ads)
  rep : ∀ (i : Nat) (x : GL) (a : Option Addr × Nat), ls[i]? = some x → ads[i]? = some a → RepI w (fun q => q < w.heap.size ∧ obk la ≠ some q) a.1 (x.body.map (fun (x : Nat) => (x : Int)))
theorem GbL.nil (w : World) : GbL w w [] [] none 0 := ⟨Ext.refl _, rfl, World.ownsRow_nil _ _ _ _, fun i x a h => by simp at h⟩
theorem GbL.on {w0 w w' : World} {ls : List GL} {ads : List (Option Addr × Nat)} {la : Option Addr} {lc : Nat} (h : GbL w0 w ls ads la lc) (k : Ext w w') : GbL w0 w' ls ads la lc :=
  ⟨h.ext.trans k, h.len, k_own_heap h.oL (fun i hi => k.block i (h.oL.lt i hi).2), fun i x a h1 h2 => (h.rep i x a h1 h2).to (fun q hq => ⟨⟨Nat.lt_of_lt_of_le hq.1 k.size, hq.2⟩, k.block q hq.1⟩)⟩
theorem GbL.add {w0 w W w3 : World} {ls : List GL} {ads : List (Option Addr × Nat)} {la : Option Addr} {lc : Nat} {ob : Obj} {g' cap' : Nat} (h : GbL w0 w ls ads la lc) (x : Ext w W) (y : GL) (a : Option Addr × Nat) (hl : RepI W (fun q => w.heap.size ≤ q ∧ q < W.heap.size) a.1 (y.body.map (fun (x : Nat) => (x : Int))))
    (g1 : (W.alloc ob).grownBy w3 (Value.slice la ls.length lc).ownBlock)
    (ho : w3.ownsRow w0.heap.size 44 3 (.slice (some ⟨g', 0, none⟩) (ls.length + 1) cap') (ls.length + 1) (lpC ls ads ++ glC y a))
    (hw : (Value.slice la ls.length lc).ownBlock = some g' ∨ W.heap.size + 1 ≤ g') :
    GbL w0 w3 (ls ++ [y]) (ads ++ [a]) (some ⟨g', 0, none⟩) cap' := by
  rw [obk_eq] at g1 hw
  have xs := x.size
  have hz : (W.alloc ob).heap.size = W.heap.size + 1 := sz1 _ _
  have hs3 := g1.size
  have glt : ∀ q, obk la = some q → q < w.heap.size := fun q e => (h.oL.lt q (by rw [obk_eq]; exact e)).2
  have e3 : Ext w0 w3 := by
    refine Below.grown ((h.ext.trans x).trans (Ext.alloc W ob)) g1 ((h.ext.trans x).trans (Ext.alloc W ob)).size ?_
    intro j hj
    exact (h.oL.lt j (by rw [obk_eq]; exact hj)).1
  have kp : ∀ q, q < W.heap.size → obk la ≠ some q → w3.heap[q]? = W.heap[q]? := fun q hq hne => (g1.block q (by omega) (Ne.symm hne)).trans ((Ext.alloc W ob).block q hq)
  have ng : ∀ q, q < W.heap.size → obk la ≠ some q → obk (some (⟨g', 0, none⟩ : Addr)) ≠ some q := fun q hq hne e => by
    simp only [obk, Value.ownBlock, Option.some.injEq] at e
    subst e
    rcases hw with e | e
    · exact hne e
    · omega
  refine ⟨e3, by simp [h.len], by rw [lpC_app _ _ _ _ h.len, List.length_append]; exact ho, fun i l2 a2 h1 h2 => ?_⟩
  by_cases hi : i < ls.length
  · rw [List.getElem?_append_left hi] at h1
    rw [List.getElem?_append_left (by rw [h.len]; exact hi)] at h2
    refine (h.rep i l2 a2 h1 h2).to (fun q hq => ⟨⟨by omega, ng q (by omega) hq.2⟩, (kp q (by omega) hq.2).trans (x.block q hq.1)⟩)
  · have h1' := (List.getElem?_eq_some_iff.1 h1).1
    rw [List.length_append] at h1'
    simp only [List.length_cons, List.length_nil] at h1'
    obtain rfl : i = ls.length := by omega
    rw [List.getElem?_append_right (by omega), Nat.sub_self] at h1
    rw [List.getElem?_append_right (by rw [h.len]; omega), h.len, Nat.sub_self] at h2
    injection h1 with h1
    injection h2 with h2
    subst h1 h2
    have hne : ∀ q, w.heap.size ≤ q → obk la ≠ some q := fun q hq e => by have := glt q e; omega
    exact hl.to (fun q hq => ⟨⟨by omega, ng q hq.2 (hne q hq.1)⟩, kp q hq.2 (hne q hq.1)⟩)
/-- The cells of one. -/
theorem GbL.at {w0 w : World} {ls : List GL} {ads : List (Option Addr × Nat)} {la : Option Addr} {lc : Nat} (h : GbL w0 w ls ads la lc) {i : Nat} {x : GL} (hx : ls[i]? = some x) :
    ∃ g a, la = some ⟨g, 0, none⟩ ∧ ls.length ≤ lc ∧ ads[i]? = some a ∧ w0.heap.size ≤ g ∧ w.cell? ⟨g, i * 3, none⟩ = some (.int .i64 (x.head : Int)) ∧ w.cell? ⟨g, i * 3 + 1, none⟩ = some (.slice a.1 x.body.length a.2) ∧ w.cell? ⟨g, i * 3 + 2, none⟩ = some (.int .i64 (oI x.ins)) ∧ w.frozen? ⟨g, i * 3 + 2, none⟩ = false ∧ RepI w (In w) a.1 (x.body.map (fun (x : Nat) => (x : Int))) := by
  have hi := (List.getElem?_eq_some_iff.1 hx).1
  obtain ⟨a, ha⟩ : ∃ a, ads[i]? = some a := ⟨_, List.getElem?_eq_getElem (by rw [h.len]; exact hi)⟩
  rcases id h.oL.2 with ⟨e, e0⟩ | ⟨g, cap, cur, e, hb, hg, hn, _⟩
  · omega
  · injection e with e1 e2 e3
    subst e1 e3
    obtain ⟨c0, c1, c2⟩ := lpC_at ls ads i x a hx ha
    have k0 := h.oL.cells (g := g) rfl _ _ c0
    have k1 := h.oL.cells (g := g) rfl _ _ c1
    have k2 := h.oL.cells (g := g) rfl _ _ c2
    rw [k_add] at k0 k1 k2
    exact ⟨g, a, rfl, hn, ha, hb, k0, k1, k2, k_rowF hg _, (h.rep i x a hx ha).to (fun q hq => ⟨hq.1, rfl⟩)⟩
/-- Where one stands is set. -/
theorem GbL.setI {w0 w : World} {ls : List GL} {ads : List (Option Addr × Nat)} {g lc : Nat} (h : GbL w0 w ls ads (some ⟨g, 0, none⟩) lc) {i : Nat} {x : GL} (hx : ls[i]? = some x) (y : Option Nat) : GbL w0 (w.setCell ⟨g, i * 3 + 2, none⟩ (.int .i64 (oI y))) (ls.set i ⟨x.head, x.body, y⟩) ads (some ⟨g, 0, none⟩) lc := by
  have hi := (List.getElem?_eq_some_iff.1 hx).1
  obtain ⟨a, ha⟩ : ∃ a, ads[i]? = some a := ⟨_, List.getElem?_eq_getElem (by rw [h.len]; exact hi)⟩
  have hb := (h.oL.lt g (by rw [obk_eq]; rfl)).1
  refine ⟨h.ext.set (p := ⟨g, i * 3 + 2, none⟩) hb _, by rw [List.length_set]; exact h.len, ?_, fun j z b h1 h2 => ?_⟩
  · have := own_setG h.oL (i * 3 + 2) (.int .i64 (oI y))
    rw [lpC_set2 ls ads i x a y hx ha] at this
    rw [List.length_set]
    exact this
  · have hr : ∃ z', ls[j]? = some z' ∧ z'.body = z.body := by
      rw [List.getElem?_set] at h1
      split at h1
      · rename_i e
        subst e
        injection h1 with h1
        subst h1
        exact ⟨x, hx, rfl⟩
      · exact ⟨z, h1, rfl⟩
    obtain ⟨z', h3, h4⟩ := hr
    rw [← h4]
    refine (h.rep j z' b h3 h2).to (fun q hq => ⟨⟨by simpa [World.setCell] using hq.1, hq.2⟩, Below.heap_setCell _ _ _ _ (fun e => hq.2 (by simp [obk, Value.ownBlock, e]))⟩)
end Go.Proofs.Ytpfjafjpijmckaa
