/- Lists of truths under way, made list by list. -/
import Derived.Test.YtpfjafjpijmckaaGrGb
import Derived.Test.YtpfjafjpijmckaaGrCd
set_option linter.unusedSimpArgs false
set_option linter.unusedVariables false
set_option maxRecDepth 10000
namespace Go.Proofs.Ytpfjafjpijmckaa
open Go.RowKit

theorem RepB.to {w w' : World} {F F' : Nat → Prop} (h : ∀ b, F b → F' b ∧ w'.heap[b]? = w.heap[b]?) {l : List Bool} {a : Option Addr} (hr : RepB w F a l) : RepB w' F' a l := by
  rcases hr with hr | ⟨b, o, rfl, hf, hc⟩
  · exact Or.inl hr
  · exact Or.inr ⟨b, o, rfl, (h b hf).1, fun j x hx => by rw [World.cell?_of_block (w := w) (h b hf).2]; exact hc j x hx⟩
/-- From the address a on the world holds lists of truths. -/
def RepGB (w : World) (F : Nat → Prop) (a : Option Addr) (g : List (List Bool)) : Prop := g = [] ∨ ∃ b o, a = some ⟨b, o, none⟩ ∧ F b ∧ ∀ (j : Nat) (l : List Bool), g[j]? = some l → ∃ ia ic, w.cell? ⟨b, o + j, none⟩ = some (.slice ia l.length ic) ∧ RepB w F ia l
theorem RepGB.ext {w w' : World} {g : List (List Bool)} {a : Option Addr} (hr : RepGB w (In w) a g) (h : Ext w w') : RepGB w' (In w') a g := by
  rcases hr with hr | ⟨b, o, rfl, hf, hc⟩
  · exact Or.inl hr
  · refine Or.inr ⟨b, o, rfl, Nat.lt_of_lt_of_le hf h.size, fun j l hl => ?_⟩
    obtain ⟨ia, ic, h1, h2⟩ := hc j l hl
    exact ⟨ia, ic, h.cell h1, h2.ext h⟩
theorem RepGB.at {w : World} {F : Nat → Prop} {g : List (List Bool)} {a : Option Addr} (hr : RepGB w F a g) {j : Nat} {l : List Bool} (h : g[j]? = some l) :
    ∃ b o ia ic, a = some ⟨b, o, none⟩ ∧ F b ∧ w.cell? ⟨b, o + j, none⟩ = some (.slice ia l.length ic) ∧ RepB w F ia l := by
  rcases hr with rfl | ⟨b, o, rfl, hf, hc⟩
  · simp at h
  · obtain ⟨ia, ic, h1, h2⟩ := hc j l h
    exact ⟨b, o, ia, ic, rfl, hf, h1, h2⟩
theorem k_infoSB : ∃ i0, Try.prog.info? 35 = some i0 ∧ i0.zero = some (.slice none 0 0) ∧ i0.size = 1 ∧ i0.bytes = 24 := by
  have h : (Try.prog.info? 35).map (fun i => (i.zero, i.size, i.bytes)) = some (some (.slice none 0 0), 1, 24) := by kernel_rfl
  cases hi : Try.prog.info? 35 with
  | none => rw [hi] at h; cases h
  | some i =>
    rw [hi] at h
    simp at h
    exact ⟨i, rfl, h.1, h.2.1, h.2.2⟩
def slB : List (List Bool) → List (Option Addr × Nat) → List Value
  | l :: r, a :: s => .slice a.1 l.length a.2 :: slB r s
  | _, _ => []
theorem slB_app : ∀ (ls : List (List Bool)) (ads : List (Option Addr × Nat)) (l : List Bool) (a : Option Addr × Nat), ads.length = ls.length → slB (ls ++ [l]) (ads ++ [a]) = slB ls ads ++ [.slice a.1 l.length a.2]
  | [], [], x, a, h => rfl
  | [], _ :: _, x, a, h => by simp at h
  | _ :: _, [], x, a, h => by simp at h
  | y :: r, b :: s, x, a, h => by
    have := slB_app r s x a (by simpa using h)
    rw [List.cons_append, List.cons_append, slB, this, slB]
    rfl
theorem slB_at : ∀ (ls : List (List Bool)) (ads : List (Option Addr × Nat)) (i : Nat) (l : List Bool) (a : Option Addr × Nat), ls[i]? = some l → ads[i]? = some a → (slB ls ads)[i]? = some (.slice a.1 l.length a.2)
  | [], ads, i, l, a, h1, h2 => by simp at h1
  | _ :: _, [], i, l, a, h1, h2 => by simp at h2
  | x :: r, y :: s, 0, l, a, h1, h2 => by simp at h1 h2; subst h1 h2; rfl
  | x :: r, y :: s, i + 1, l, a, h1, h2 => by rw [slB]; exact slB_at r s i l a (by simpa using h1) (by simpa using h2)

/-- A graph under way. -/
structure GbB (w0 w : World) (ls : List (List Bool)) (ads : List (Option Addr × Nat)) (ga : Option Addr) (gc : Nat) : Prop where
  ext : Ext w0 w
  len : ads.length = ls.length
  oG : w.ownsRow w0.heap.size 35 1 (.slice ga ls.length gc) ls.length (slB ls ads)
  rep : ∀ (i : Nat) (l : List Bool) (a : Option Addr × Nat), ls[i]? = some l → ads[i]? = some a → RepB w (fun q => q < w.heap.size ∧ obk ga ≠ some q) a.1 l

theorem GbB.add {w0 w W w3 : World} {ls : List (List Bool)} {ads : List (Option Addr × Nat)} {ga : Option Addr} {gc : Nat} {ob : Obj} {g' cap' : Nat} (h : GbB w0 w ls ads ga gc) (x : Ext w W) (l : List Bool) (a : Option Addr × Nat) (hl : RepB W (fun q => w.heap.size ≤ q ∧ q < W.heap.size) a.1 l)
    (g1 : (W.alloc ob).grownBy w3 (Value.slice ga ls.length gc).ownBlock)
    (ho : w3.ownsRow w0.heap.size 35 1 (.slice (some ⟨g', 0, none⟩) (ls.length + 1) cap') (ls.length + 1) (slB ls ads ++ [.slice a.1 l.length a.2]))
    (hw : (Value.slice ga ls.length gc).ownBlock = some g' ∨ W.heap.size + 1 ≤ g') :
    GbB w0 w3 (ls ++ [l]) (ads ++ [a]) (some ⟨g', 0, none⟩) cap' := by
  rw [obk_eq] at g1 hw
  have xs := x.size
  have hz : (W.alloc ob).heap.size = W.heap.size + 1 := sz1 _ _
  have hs3 := g1.size
  have glt : ∀ q, obk ga = some q → q < w.heap.size := fun q e => (h.oG.lt q (by rw [obk_eq]; exact e)).2
  have e3 : Ext w0 w3 := by
    refine Below.grown ((h.ext.trans x).trans (Ext.alloc W ob)) g1 ((h.ext.trans x).trans (Ext.alloc W ob)).size ?_
    intro j hj
    exact (h.oG.lt j (by rw [obk_eq]; exact hj)).1
  have kp : ∀ q, q < W.heap.size → obk ga ≠ some q → w3.heap[q]? = W.heap[q]? := fun q hq hne => (g1.block q (by omega) (Ne.symm hne)).trans ((Ext.alloc W ob).block q hq)
  have ng : ∀ q, q < W.heap.size → obk ga ≠ some q → obk (some (⟨g', 0, none⟩ : Addr)) ≠ some q := fun q hq hne e => by
    simp only [obk, Value.ownBlock, Option.some.injEq] at e
    subst e
    rcases hw with e | e
    · exact hne e
    · omega
  refine ⟨e3, by simp [h.len], by rw [slB_app _ _ _ _ h.len, List.length_append]; exact ho, fun i l2 a2 h1 h2 => ?_⟩
  by_cases hi : i < ls.length
  · rw [List.getElem?_append_left hi] at h1
    rw [List.getElem?_append_left (by rw [h.len]; exact hi)] at h2
    refine (h.rep i l2 a2 h1 h2).to (fun q hq => ⟨⟨by omega, ng q (by omega) hq.2⟩, (kp q (by omega) hq.2).trans (x.block q hq.1)⟩)
  · have h1' := (List.getElem?_eq_some_iff.1 h1).1
    rw [List.length_append] at h1'
    simp only [List.length_cons, List.length_nil] at h1'
    obtain rfl : i = ls.length := by omega
    rw [List.getElem?_append_right (by omega), Nat.sub_self] at h1
    rw [List.getElem?_append_right (by rw [h.len]; omega), h.len, Nat.sub_self] at h2
    injection h1 with h1
    injection h2 with h2
    subst h1 h2
    have hne : ∀ q, w.heap.size ≤ q → obk ga ≠ some q := fun q hq e => by have := glt q e; omega
    exact hl.to (fun q hq => ⟨⟨by omega, ng q hq.2 (hne q hq.1)⟩, kp q hq.2 (hne q hq.1)⟩)
theorem GbB.graph {w0 w : World} {ls : List (List Bool)} {ads : List (Option Addr × Nat)} {ga : Option Addr} {gc : Nat} (h : GbB w0 w ls ads ga gc) : RepGB w (In w) ga ls := by
  by_cases h0 : ls = []
  · exact Or.inl h0
  · rcases id h.oG.2 with ⟨e, e0⟩ | ⟨g, cap, cur, e, hb, hg, hn, _⟩
    · exact absurd (List.length_eq_zero_iff.1 e0) h0
    · injection e with e1 e2 e3
      subst e1 e3
      refine Or.inr ⟨g, 0, rfl, k_lt hg, fun j l hl => ?_⟩
      have hj := (List.getElem?_eq_some_iff.1 hl).1
      obtain ⟨a, ha⟩ : ∃ a, ads[j]? = some a := ⟨_, List.getElem?_eq_getElem (by rw [h.len]; exact hj)⟩
      have := h.oG.cells (g := g) rfl j _ (slB_at ls ads j l a hl ha)
      rw [k_add] at this
      exact ⟨a.1, a.2, by rw [Nat.zero_add]; exact this, (h.rep j l a hl ha).to (fun q hq => ⟨hq.1, rfl⟩)⟩
end Go.Proofs.Ytpfjafjpijmckaa
